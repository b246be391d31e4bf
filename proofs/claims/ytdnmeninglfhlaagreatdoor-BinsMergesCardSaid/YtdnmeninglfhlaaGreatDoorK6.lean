/-
  Texts joined, in build order: BinG, BinH, BinI, BinJ, BinL, PlusN, BinN, BinX, BinA, BinB, BinD, BinE, Open, OpenS, PairV, ValO, ValR, SpanL.
-/
import Derived.Test.YtdnmeninglfhlaaGreatDoorK5
import Derived.Handy
import Derived.StillTailTactics
import Derived.Deep.RegionHeld3
import Derived.Test.YtdnmeninglfhlaaGreatDoorRows
import Derived.WalkKit
import Derived.ProofKit
import Derived.OpenShut
import Derived.Lib.SmallJoins
import Derived.SizedLaws
import Derived.Lib.AppendZerosOnto
import Derived.Laws.OwnMore
import Derived.Lib.LaidTab
import Derived.LaidMore
import Derived.Stop.Joined
/-
  Walks: package bins: its stores, whatever layer they are of; what is asked of both.
-/
namespace Go.Proofs.YtdnmeninglfhlaaGreatDoor
set_option linter.unusedVariables false
set_option linter.unusedSimpArgs false
open Go.RowKit

/-- A method called through an interface's value: which function it is. -/
structure Mth (name : String) (t g : Nat) (v : Value) : Prop where
  m : ∀ (n : Nat) (W : World), (method (n + 1) t v name).run Tryz.prog W = .ok (g, v) W
  e : ∀ (args : Array Value) (W : World), (callFunc g args).run Tryz.prog W = .ok (.enter g args) W
theorem lmth_total (x : Option Addr) : Mth "Total" 116 76 (.pointer x) := ⟨fun n W => by kernel_rfl, fun args W => by kernel_rfl⟩
theorem lmth_lost (x : Option Addr) : Mth "Lost" 116 99 (.pointer x) := ⟨fun n W => by kernel_rfl, fun args W => by kernel_rfl⟩
theorem lmth_pairs (x : Option Addr) : Mth "Pairs" 116 78 (.pointer x) := ⟨fun n W => by kernel_rfl, fun args W => by kernel_rfl⟩
theorem lmth_most (x : Option Addr) : Mth "Most" 116 159 (.pointer x) := ⟨fun n W => by kernel_rfl, fun args W => by kernel_rfl⟩
theorem lmth_find (x : Option Addr) : Mth "Find" 116 158 (.pointer x) := ⟨fun n W => by kernel_rfl, fun args W => by kernel_rfl⟩
theorem lmth_below (x : Option Addr) : Mth "Below" 116 157 (.pointer x) := ⟨fun n W => by kernel_rfl, fun args W => by kernel_rfl⟩
theorem lmth_add (x : Option Addr) : Mth "Add" 116 156 (.pointer x) := ⟨fun n W => by kernel_rfl, fun args W => by kernel_rfl⟩
theorem hmth_total (x : Option Addr) : Mth "Total" 122 79 (.pointer x) := ⟨fun n W => by kernel_rfl, fun args W => by kernel_rfl⟩
theorem hmth_lost (x : Option Addr) : Mth "Lost" 122 104 (.pointer x) := ⟨fun n W => by kernel_rfl, fun args W => by kernel_rfl⟩
theorem hmth_pairs (x : Option Addr) : Mth "Pairs" 122 80 (.pointer x) := ⟨fun n W => by kernel_rfl, fun args W => by kernel_rfl⟩
theorem hmth_most (x : Option Addr) : Mth "Most" 122 165 (.pointer x) := ⟨fun n W => by kernel_rfl, fun args W => by kernel_rfl⟩
theorem hmth_find (x : Option Addr) : Mth "Find" 122 164 (.pointer x) := ⟨fun n W => by kernel_rfl, fun args W => by kernel_rfl⟩
theorem hmth_below (x : Option Addr) : Mth "Below" 122 163 (.pointer x) := ⟨fun n W => by kernel_rfl, fun args W => by kernel_rfl⟩
theorem hmth_add (x : Option Addr) : Mth "Add" 122 162 (.pointer x) := ⟨fun n W => by kernel_rfl, fun args W => by kernel_rfl⟩
theorem tmth_index (x : Option Addr) : Mth "Index" 110 150 (.pointer x) := ⟨fun n W => by kernel_rfl, fun args W => by kernel_rfl⟩
theorem tmth_rep (x : Option Addr) : Mth "Rep" 110 152 (.pointer x) := ⟨fun n W => by kernel_rfl, fun args W => by kernel_rfl⟩
theorem smth_index (x : Option Addr) : Mth "Index" 38 146 (.pointer x) := ⟨fun n W => by kernel_rfl, fun args W => by kernel_rfl⟩
theorem smth_rep (x : Option Addr) : Mth "Rep" 38 147 (.pointer x) := ⟨fun n W => by kernel_rfl, fun args W => by kernel_rfl⟩

/-- A store in memory, as an interface's value of type t. -/
def StoT (w : World) (t : Nat) (v : Value) (S : Nat → Prop) : Bool → Int → List PairV → Int → Prop
  | false, m, K, T => t = 116 ∧ ∃ B, v = .pointer (some ⟨B, 0, none⟩) ∧ LwX w B S m K T
  | true, m, K, T => t = 122 ∧ ∃ B, v = .pointer (some ⟨B, 0, none⟩) ∧ HwX w B S m K T
theorem sto_keep {w w' : World} {t : Nat} {v : Value} {S : Nat → Prop} {s : Bool} {m : Int} {K : List PairV} {T : Int} (h : StoT w t v S s m K T) (hk : ∀ k, S k → w'.heap[k]? = w.heap[k]?) : StoT w' t v S s m K T := by
  cases s with
  | false => obtain ⟨e, B, e', h⟩ := h; exact ⟨e, B, e', low_does.keep w w' B S m K T h hk⟩
  | true => obtain ⟨e, B, e', h⟩ := h; exact ⟨e, B, e', high_does.keep w w' B S m K T h hk⟩
theorem sto_lt {w : World} {t : Nat} {v : Value} {S : Nat → Prop} {s : Bool} {m : Int} {K : List PairV} {T : Int} (h : StoT w t v S s m K T) : ∀ k, S k → k < w.heap.size := by
  cases s with
  | false => obtain ⟨e, B, e', h⟩ := h; exact low_does.lt w B S m K T h
  | true => obtain ⟨e, B, e', h⟩ := h; exact high_does.lt w B S m K T h
theorem sto_kept {w : World} {t : Nat} {v : Value} {S : Nat → Prop} {s : Bool} {m : Int} {K : List PairV} {T : Int} (h : StoT w t v S s m K T) : KeptP s m K T := by
  cases s with
  | false => obtain ⟨e, B, e', h⟩ := h; exact low_does.lwp w B S m K T h
  | true => obtain ⟨e, B, e', h⟩ := h; exact high_does.lwp w B S m K T h
theorem sto_call {w w' : World} {t : Nat} {v : Value} {S : Nat → Prop} {s : Bool} {m : Int} {K : List PairV} {T : Int} (h : StoT w t v S s m K T) (hb : Below w.heap.size w w') : StoT w' t v S s m K T := sto_keep h fun k hk => hb.block k (sto_lt h k hk)
theorem sto_total {w : World} {t : Nat} {v : Value} {S : Nat → Prop} {s : Bool} {m : Int} {K : List PairV} {T : Int} (h : StoT w t v S s m K T) : ∃ g, Mth "Total" t g v ∧ ∀ (W : World) (S : Nat → Prop) (K : List PairV) (T : Int), StoT W t v S s m K T → K.length ≤ 700 → Calls Tryz.prog g #[v] W fun e w' => e = .returned (.int .u64 T) ∧ Below W.heap.size W w' := by
  cases s with
  | false => obtain ⟨rfl, B, rfl, _⟩ := h; exact ⟨_, lmth_total _, fun W S K T ⟨_, B', e, h'⟩ hl => by cases e; exact low_does.total W B S m K T h' hl⟩
  | true => obtain ⟨rfl, B, rfl, _⟩ := h; exact ⟨_, hmth_total _, fun W S K T ⟨_, B', e, h'⟩ hl => by cases e; exact high_does.total W B S m K T h' hl⟩
theorem sto_lost {w : World} {t : Nat} {v : Value} {S : Nat → Prop} {s : Bool} {m : Int} {K : List PairV} {T : Int} (h : StoT w t v S s m K T) : ∃ g, Mth "Lost" t g v ∧ ∀ (W : World) (S : Nat → Prop) (K : List PairV) (T : Int), StoT W t v S s m K T → Calls Tryz.prog g #[v] W fun e w' => e = .returned (.int .u64 (T - sumP K)) ∧ Below W.heap.size W w' := by
  cases s with
  | false => obtain ⟨rfl, B, rfl, _⟩ := h; exact ⟨_, lmth_lost _, fun W S K T ⟨_, B', e, h'⟩  => by cases e; exact low_does.lost W B S m K T h'⟩
  | true => obtain ⟨rfl, B, rfl, _⟩ := h; exact ⟨_, hmth_lost _, fun W S K T ⟨_, B', e, h'⟩  => by cases e; exact high_does.lost W B S m K T h'⟩
theorem sto_pairs {w : World} {t : Nat} {v : Value} {S : Nat → Prop} {s : Bool} {m : Int} {K : List PairV} {T : Int} (h : StoT w t v S s m K T) : ∃ g, Mth "Pairs" t g v ∧ ∀ (W : World) (S : Nat → Prop) (K : List PairV) (T : Int), StoT W t v S s m K T → K.length ≤ 700 → Calls Tryz.prog g #[v] W fun e w' => ∃ u, e = .returned u ∧ OwnP w' W.heap.size u K ∧ Below W.heap.size W w' := by
  cases s with
  | false => obtain ⟨rfl, B, rfl, _⟩ := h; exact ⟨_, lmth_pairs _, fun W S K T ⟨_, B', e, h'⟩ hl => by cases e; exact low_does.pairs W B S m K T h' hl⟩
  | true => obtain ⟨rfl, B, rfl, _⟩ := h; exact ⟨_, hmth_pairs _, fun W S K T ⟨_, B', e, h'⟩ hl => by cases e; exact high_does.pairs W B S m K T h' hl⟩
theorem sto_most {w : World} {t : Nat} {v : Value} {S : Nat → Prop} {s : Bool} {m : Int} {K : List PairV} {T : Int} (h : StoT w t v S s m K T) : ∃ g, Mth "Most" t g v ∧ ∀ (W : World) (S : Nat → Prop) (K : List PairV) (T : Int), StoT W t v S s m K T → Calls Tryz.prog g #[v] W fun e w' => e = .returned (.int .i64 m) ∧ Below W.heap.size W w' := by
  cases s with
  | false => obtain ⟨rfl, B, rfl, _⟩ := h; exact ⟨_, lmth_most _, fun W S K T ⟨_, B', e, h'⟩  => by cases e; exact low_does.most W B S m K T h'⟩
  | true => obtain ⟨rfl, B, rfl, _⟩ := h; exact ⟨_, hmth_most _, fun W S K T ⟨_, B', e, h'⟩  => by cases e; exact high_does.most W B S m K T h'⟩
theorem sto_find {w : World} {t : Nat} {v : Value} {S : Nat → Prop} {s : Bool} {m : Int} {K : List PairV} {T : Int} (h : StoT w t v S s m K T) : ∃ g, Mth "Find" t g v ∧ ∀ (W : World) (S : Nat → Prop) (K : List PairV) (T : Int) (x : Int), StoT W t v S s m K T → K.length ≤ 700 → Word x → Calls Tryz.prog g #[v, .int .u64 x] W fun e w' => e = .returned (.tuple #[.int .i64 ((findS s K (T - sumP K) x).getD 0), .bool (findS s K (T - sumP K) x).isSome]) ∧ Below W.heap.size W w' := by
  cases s with
  | false => obtain ⟨rfl, B, rfl, _⟩ := h; exact ⟨_, lmth_find _, fun W S K T x ⟨_, B', e, h'⟩ hl hx => by cases e; exact low_does.find W B S m K T x h' hl hx⟩
  | true => obtain ⟨rfl, B, rfl, _⟩ := h; exact ⟨_, hmth_find _, fun W S K T x ⟨_, B', e, h'⟩ hl hx => by cases e; exact high_does.find W B S m K T x h' hl hx⟩
theorem sto_below {w : World} {t : Nat} {v : Value} {S : Nat → Prop} {s : Bool} {m : Int} {K : List PairV} {T : Int} (h : StoT w t v S s m K T) : ∃ g, Mth "Below" t g v ∧ ∀ (W : World) (S : Nat → Prop) (K : List PairV) (T : Int) (i : Int), StoT W t v S s m K T → K.length ≤ 700 → I64 i → Calls Tryz.prog g #[v, .int .i64 i] W fun e w' => e = .returned (.tuple #[.int .u64 (lowS s m K (T - sumP K) i), .int .u64 (highS s m K (T - sumP K) i)]) ∧ Below W.heap.size W w' := by
  cases s with
  | false => obtain ⟨rfl, B, rfl, _⟩ := h; exact ⟨_, lmth_below _, fun W S K T i ⟨_, B', e, h'⟩ hl hi => by cases e; exact low_does.below W B S m K T i h' hl hi⟩
  | true => obtain ⟨rfl, B, rfl, _⟩ := h; exact ⟨_, hmth_below _, fun W S K T i ⟨_, B', e, h'⟩ hl hi => by cases e; exact high_does.below W B S m K T i h' hl hi⟩
/-- What Add leaves: kept, and in all. -/
def addK (s : Bool) (m : Int) (K : List PairV) (T i c : Int) : List PairV := if lwErr T c = 0 then keepS s m (addP K i c) else K
theorem sto_add {w : World} {t : Nat} {v : Value} {S : Nat → Prop} {s : Bool} {m : Int} {K : List PairV} {T : Int} (h : StoT w t v S s m K T) : ∃ g, Mth "Add" t g v ∧ ∀ (W : World) (S : Nat → Prop) (K : List PairV) (T : Int) (i c : Int), StoT W t v S s m K T → K.length ≤ 700 → I64 i → Word c → Calls Tryz.prog g #[v, .int .i64 i, .int .u64 c] W fun e w' => ∃ S', e = .returned (.int .i64 (lwErr T c)) ∧ StoT w' t v S' s m (addK s m K T i c) (lwSum T c) ∧ Keeps S W w' ∧ (∀ k, S' k → S k ∨ W.heap.size ≤ k) := by
  cases s with
  | false => obtain ⟨rfl, B, rfl, _⟩ := h; exact ⟨_, lmth_add _, fun W S K T i c ⟨_, B', e, h'⟩ hl hi hc => by cases e; exact (low_does.add W B S m K T i c h' hl hi hc).mono fun e w' ⟨S', a, b, c', d⟩ => ⟨S', a, ⟨rfl, B, rfl, b⟩, c', d⟩⟩
  | true => obtain ⟨rfl, B, rfl, _⟩ := h; exact ⟨_, hmth_add _, fun W S K T i c ⟨_, B', e, h'⟩ hl hi hc => by cases e; exact (high_does.add W B S m K T i c h' hl hi hc).mono fun e w' ⟨S', a, b, c', d⟩ => ⟨S', a, ⟨rfl, B, rfl, b⟩, c', d⟩⟩

/-- A partition's calls. -/
theorem rep_bd {P : Pt} (h : P.ok) (i : Int) : 0 ≤ P.rep i ∧ P.rep i ≤ 9223372036854775808 := by
  cases P with
  | cells u v n =>
    obtain ⟨g, t, hn⟩ := h
    show 0 ≤ (if 0 ≤ i ∧ i < n then repC u v (lowC u v i.toNat) else 0) ∧ (if 0 ≤ i ∧ i < n then repC u v (lowC u v i.toNat) else 0) ≤ _
    split
    · have := rep_word g (low_pos g i.toNat); omega
    · omega
  | spans d L T =>
    show 0 ≤ (if 1 ≤ i ∧ i ≤ lastS L then midS (lowI L i) (highI L i) else 0) ∧ (if 1 ≤ i ∧ i ≤ lastS L then midS (lowI L i) (highI L i) else 0) ≤ _
    split
    · rename_i hi
      obtain ⟨a, b, c⟩ := high_in L hi.1 hi.2 (spanp_log h).2
      have := mid_in b; omega
    · omega
theorem pt_index {w : World} {V : Value} {R : Nat → Prop} {P : Pt} (h : PtX w V R P) : ∃ t v g, V = .iface t v ∧ Mth "Index" t g v ∧ ∀ (W : World) (x : Int), PtX W V R P → 1 ≤ x → x ≤ 9223372036854775808 → Calls Tryz.prog g #[v, .int .u64 x] W fun e w' => e = .returned (.tuple #[.int .i64 (P.idx x), .bool true]) ∧ Below W.heap.size W w' := by
  cases P with
  | cells u v n =>
    obtain ⟨B, rfl, _⟩ := h
    exact ⟨_, _, _, rfl, tmth_index _, fun W x ⟨B', e, h'⟩ h1 h2 => by cases e; exact tindex_yes W B R u v x n _ h' h1 h2 rfl⟩
  | spans d L T =>
    obtain ⟨B, rfl, _⟩ := h
    refine ⟨_, _, _, rfl, smth_index _, fun W x ⟨B', e, h', hs, _⟩ h1 h2 => ?_⟩
    cases e
    refine (sindex_any W B d L T x hs h' h1 h2).mono ?_
    rintro e w' ⟨rfl, n, rfl⟩
    exact ⟨rfl, below_drewN (Below.refl _ _) _⟩
theorem pt_rep {w : World} {V : Value} {R : Nat → Prop} {P : Pt} (h : PtX w V R P) : ∃ t v g, V = .iface t v ∧ Mth "Rep" t g v ∧ ∀ (W : World) (i : Int), PtX W V R P → I64 i → Calls Tryz.prog g #[v, .int .i64 i] W fun e w' => e = .returned (.int .u64 (P.rep i)) ∧ Below W.heap.size W w' := by
  cases P with
  | cells u v n =>
    obtain ⟨B, rfl, _⟩ := h
    refine ⟨_, _, _, rfl, tmth_rep _, fun W i ⟨B', e, h'⟩ hi => ?_⟩
    cases e
    show Calls _ _ _ _ fun e w' => e = .returned (.int .u64 (if 0 ≤ i ∧ i < n then repC u v (lowC u v i.toNat) else 0)) ∧ _
    by_cases hc : 0 ≤ i ∧ i < n
    · rw [if_pos hc]
      obtain ⟨k, rfl⟩ : ∃ k : Nat, i = k := ⟨i.toNat, by omega⟩
      rw [Int.toNat_natCast]
      refine (trep_any W B R u v n k _ h' (by omega) rfl).mono ?_
      rintro e w' ⟨rfl, rfl⟩
      exact ⟨rfl, Below.refl _ _⟩
    · rw [if_neg hc]
      refine (trep_out W B R u v n i h' hi (by omega)).mono ?_
      rintro e w' ⟨rfl, rfl⟩
      exact ⟨rfl, Below.refl _ _⟩
  | spans d L T =>
    obtain ⟨B, rfl, _⟩ := h
    refine ⟨_, _, _, rfl, smth_rep _, fun W i ⟨B', e, h', hs, _⟩ hi => ?_⟩
    cases e
    show Calls _ _ _ _ fun e w' => e = .returned (.int .u64 (if 1 ≤ i ∧ i ≤ lastS L then midS (lowI L i) (highI L i) else 0)) ∧ _
    by_cases hc : 1 ≤ i ∧ i ≤ lastS L
    · rw [if_pos hc]
      refine (srep_any W B d L T i hs h' hc.1 hc.2).mono ?_
      rintro e w' ⟨rfl, n, rfl⟩
      exact ⟨rfl, below_drewN (Below.refl _ _) _⟩
    · rw [if_neg hc]
      refine (srep_out W B d L T i hs h' hi hc).mono ?_
      rintro e w' ⟨rfl, n, rfl⟩
      exact ⟨rfl, below_drewN (Below.refl _ _) _⟩

/-- The five cells of bins. -/
structure BnC (w : World) (B : Nat) (V : Value) (s : Bool) (t1 : Nat) (v1 : Value) (t2 : Nat) (v2 : Value) (z : Int) : Prop where
  b : w.heap[B]? = some (.cells #[V, .int .i64 (sideI s), .iface t1 v1, .iface t2 v2, .int .u64 z] 87 (0, 0))
theorem BnC.c0 {w : World} {B : Nat} {V : Value} {s : Bool} {t1 : Nat} {v1 : Value} {t2 : Nat} {v2 : Value} {z : Int} (h : BnC w B V s t1 v1 t2 v2 z) : w.cell? ⟨B, 0, none⟩ = some V := by rw [Joins.cell_of_block h.b]; rfl
theorem BnC.c1 {w : World} {B : Nat} {V : Value} {s : Bool} {t1 : Nat} {v1 : Value} {t2 : Nat} {v2 : Value} {z : Int} (h : BnC w B V s t1 v1 t2 v2 z) : w.cell? ⟨B, 1, none⟩ = some (.int .i64 (sideI s)) := by rw [Joins.cell_of_block h.b]; rfl
theorem BnC.c2 {w : World} {B : Nat} {V : Value} {s : Bool} {t1 : Nat} {v1 : Value} {t2 : Nat} {v2 : Value} {z : Int} (h : BnC w B V s t1 v1 t2 v2 z) : w.cell? ⟨B, 2, none⟩ = some (.iface t1 v1) := by rw [Joins.cell_of_block h.b]; rfl
theorem BnC.c3 {w : World} {B : Nat} {V : Value} {s : Bool} {t1 : Nat} {v1 : Value} {t2 : Nat} {v2 : Value} {z : Int} (h : BnC w B V s t1 v1 t2 v2 z) : w.cell? ⟨B, 3, none⟩ = some (.iface t2 v2) := by rw [Joins.cell_of_block h.b]; rfl
theorem BnC.c4 {w : World} {B : Nat} {V : Value} {s : Bool} {t1 : Nat} {v1 : Value} {t2 : Nat} {v2 : Value} {z : Int} (h : BnC w B V s t1 v1 t2 v2 z) : w.cell? ⟨B, 4, none⟩ = some (.int .u64 z) := by rw [Joins.cell_of_block h.b]; rfl
theorem BnC.call {w w' : World} {B : Nat} {V : Value} {s : Bool} {t1 : Nat} {v1 : Value} {t2 : Nat} {v2 : Value} {z : Int} (h : BnC w B V s t1 v1 t2 v2 z) (hb : Below w.heap.size w w') : BnC w' B V s t1 v1 t2 v2 z := ⟨(hb.block B (lt_of_block h.b)).trans h.b⟩

set_option maxHeartbeats 400000 in
theorem bstores_none (w : World) : Calls Tryz.prog 33 #[.pointer none] w fun e w' => e = .returned (.tuple #[.iface 116 (.pointer none), .iface 116 (.pointer none)]) ∧ Below w.heap.size w w' := by
  go_enter Tryz.func33, Tryz.ntmps33
  go_wp2_with fail
  go_ret2
  exact ⟨rfl, Below.refl _ _⟩
set_option maxHeartbeats 400000 in
theorem bstores_at (w : World) (B : Nat) (V1 V2 : Value) (h1 : w.cell? ⟨B, 2, none⟩ = some V1) (h2 : w.cell? ⟨B, 3, none⟩ = some V2) :
    Calls Tryz.prog 33 #[.pointer (some ⟨B, 0, none⟩)] w fun e w' => e = .returned (.tuple #[V1, V2]) ∧ Below w.heap.size w w' := by
  go_enter Tryz.func33, Tryz.ntmps33
  go_wp2_with fail
  go_region
  all_goals go_wp2_with fail
  all_goals go_ret2
  all_goals exact ⟨rfl, by go_grown⟩
set_option maxHeartbeats 400000 in
theorem bzero_none (w : World) : Calls Tryz.prog 14 #[.pointer none] w fun e w' => e = .returned (.int .u64 0) ∧ Below w.heap.size w w' := by
  go_enter Tryz.func14, Tryz.ntmps14
  go_wp2_with fail
  go_ret
  exact ⟨rfl, Below.refl _ _⟩
set_option maxHeartbeats 400000 in
theorem bzero_at (w : World) (B : Nat) (z : Int) (h : w.cell? ⟨B, 4, none⟩ = some (.int .u64 z)) : Calls Tryz.prog 14 #[.pointer (some ⟨B, 0, none⟩)] w fun e w' => e = .returned (.int .u64 z) ∧ Below w.heap.size w w' := by
  go_enter Tryz.func14, Tryz.ntmps14
  go_wp2_with fail
  go_ret
  exact ⟨rfl, Below.refl _ _⟩

/-- What is known of bins' receiver: its stores, and noughts. -/
structure Has (w : World) (r : Value) (t1 : Nat) (v1 : Value) (t2 : Nat) (v2 : Value) (z : Int) : Prop where
  st : ∀ W, Below w.heap.size w W → Calls Tryz.prog 33 #[r] W fun e w' => e = .returned (.tuple #[.iface t1 v1, .iface t2 v2]) ∧ Below W.heap.size W w'
  ze : ∀ W, Below w.heap.size w W → Calls Tryz.prog 14 #[r] W fun e w' => e = .returned (.int .u64 z) ∧ Below W.heap.size W w'
theorem has_none (w : World) : Has w (.pointer none) 116 (.pointer none) 116 (.pointer none) 0 := ⟨fun W _ => bstores_none W, fun W _ => bzero_none W⟩
theorem has_at {w : World} {B : Nat} {V : Value} {s : Bool} {t1 : Nat} {v1 : Value} {t2 : Nat} {v2 : Value} {z : Int} (h : BnC w B V s t1 v1 t2 v2 z) : Has w (.pointer (some ⟨B, 0, none⟩)) t1 v1 t2 v2 z :=
  ⟨fun W hb => bstores_at W B _ _ (h.call hb).c2 (h.call hb).c3, fun W hb => bzero_at W B z (h.call hb).c4⟩

set_option maxRecDepth 100000 in
set_option maxHeartbeats 400000 in
theorem btotal_of (w : World) (r : Value) (t1 t2 g1 g2 : Nat) (v1 v2 : Value) (x1 x2 z : Int) (hst : Has w r t1 v1 t2 v2 z)
    (hm1 : Mth "Total" t1 g1 v1) (hm2 : Mth "Total" t2 g2 v2)
    (hc1 : ∀ W, Below w.heap.size w W → Calls Tryz.prog g1 #[v1] W fun e w' => e = .returned (.int .u64 x1) ∧ Below W.heap.size W w')
    (hc2 : ∀ W, Below w.heap.size w W → Calls Tryz.prog g2 #[v2] W fun e w' => e = .returned (.int .u64 x2) ∧ Below W.heap.size W w')
    (h1 : 0 ≤ x1) (h2 : 0 ≤ x2) (h3 : 0 ≤ z) (h4 : x1 + z + x2 ≤ 9223372036854775807) :
    Calls Tryz.prog 13 #[r] w fun e w' => e = .returned (.int .u64 (x1 + z + x2)) ∧ Below w.heap.size w w' := by
  have H1 := Lib.hid hm1
  have H2 := Lib.hid hm2
  have C1 := Lib.hid hc1
  have C2 := Lib.hid hc2
  have HS := Lib.hid hst
  clear hm1 hm2 hc1 hc2 hst
  go_enter Tryz.func13, Tryz.ntmps13
  go_wp2_with fail
  refine (HS.out.st _ (Below.refl _ _)).mono ?_
  rintro e w2 ⟨rfl, b2⟩
  go_wp2_with fail
  rw [H1.out.m]
  go_wp2_with fail
  rw [H1.out.e]
  show Calls _ _ _ _ _
  refine (C1.out _ b2).mono ?_
  rintro e w3 ⟨rfl, b3⟩
  have b3 := b2.trans (b3.mono b2.size)
  go_wp2_with fail
  refine (HS.out.ze _ b3).mono ?_
  rintro e w4 ⟨rfl, b4⟩
  have b4 := b3.trans (b4.mono b3.size)
  go_wp2_with fail
  rw [H2.out.m]
  go_wp2_with fail
  rw [H2.out.e]
  show Calls _ _ _ _ _
  refine (C2.out _ b4).mono ?_
  rintro e w5 ⟨rfl, b5⟩
  have b5 := b4.trans (b5.mono b4.size)
  go_wp2_with fail
  go_ret
  exact ⟨rfl, b5⟩
set_option maxRecDepth 100000 in
set_option maxHeartbeats 400000 in
theorem blost_of (w : World) (r : Value) (t1 t2 g1 g2 : Nat) (v1 v2 : Value) (x1 x2 z : Int) (hst : Has w r t1 v1 t2 v2 z)
    (hm1 : Mth "Lost" t1 g1 v1) (hm2 : Mth "Lost" t2 g2 v2)
    (hc1 : ∀ W, Below w.heap.size w W → Calls Tryz.prog g1 #[v1] W fun e w' => e = .returned (.int .u64 x1) ∧ Below W.heap.size W w')
    (hc2 : ∀ W, Below w.heap.size w W → Calls Tryz.prog g2 #[v2] W fun e w' => e = .returned (.int .u64 x2) ∧ Below W.heap.size W w') :
    Calls Tryz.prog 24 #[r] w fun e w' => e = .returned (.tuple #[.int .u64 x1, .int .u64 x2]) ∧ Below w.heap.size w w' := by
  have H1 := Lib.hid hm1
  have H2 := Lib.hid hm2
  have C1 := Lib.hid hc1
  have C2 := Lib.hid hc2
  have HS := Lib.hid hst
  clear hm1 hm2 hc1 hc2 hst
  go_enter Tryz.func24, Tryz.ntmps24
  go_wp2_with fail
  refine (HS.out.st _ (Below.refl _ _)).mono ?_
  rintro e w2 ⟨rfl, b2⟩
  go_wp2_with fail
  rw [H1.out.m]
  go_wp2_with fail
  rw [H1.out.e]
  show Calls _ _ _ _ _
  refine (C1.out _ b2).mono ?_
  rintro e w3 ⟨rfl, b3⟩
  have b3 := b2.trans (b3.mono b2.size)
  go_wp2_with fail
  rw [H2.out.m]
  go_wp2_with fail
  rw [H2.out.e]
  show Calls _ _ _ _ _
  refine (C2.out _ b3).mono ?_
  rintro e w5 ⟨rfl, b5⟩
  have b5 := b3.trans (b5.mono b3.size)
  go_wp2_with fail
  go_ret2
  exact ⟨rfl, b5⟩
set_option maxRecDepth 100000 in
set_option maxHeartbeats 400000 in
theorem brows_of (w : World) (r : Value) (t1 t2 g1 g2 : Nat) (v1 v2 : Value) (K1 K2 : List PairV) (z : Int) (hst : Has w r t1 v1 t2 v2 z)
    (hm1 : Mth "Pairs" t1 g1 v1) (hm2 : Mth "Pairs" t2 g2 v2)
    (hc1 : ∀ W, Below w.heap.size w W → Calls Tryz.prog g1 #[v1] W fun e w' => ∃ u, e = .returned u ∧ OwnP w' W.heap.size u K1 ∧ Below W.heap.size W w')
    (hc2 : ∀ W, Below w.heap.size w W → Calls Tryz.prog g2 #[v2] W fun e w' => ∃ u, e = .returned u ∧ OwnP w' W.heap.size u K2 ∧ Below W.heap.size W w') :
    Calls Tryz.prog 29 #[r] w fun e w' => ∃ u1 u2, e = .returned (.tuple #[u1, u2]) ∧ OwnP w' w.heap.size u1 K1 ∧ OwnP w' w.heap.size u2 K2 ∧ Below w.heap.size w w' := by
  have H1 := Lib.hid hm1
  have H2 := Lib.hid hm2
  have C1 := Lib.hid hc1
  have C2 := Lib.hid hc2
  have HS := Lib.hid hst
  clear hm1 hm2 hc1 hc2 hst
  go_enter Tryz.func29, Tryz.ntmps29
  go_wp2_with fail
  refine (HS.out.st _ (Below.refl _ _)).mono ?_
  rintro e w2 ⟨rfl, b2⟩
  go_wp2_with fail
  rw [H1.out.m]
  go_wp2_with fail
  rw [H1.out.e]
  show Calls _ _ _ _ _
  refine (C1.out _ b2).mono ?_
  rintro e w3 ⟨u1, rfl, ho1, b3⟩
  have HO1 : Hid (OwnP w3 w.heap.size u1 K1) := Lib.hid (World.ownsRow.mono ho1 b2.size)
  have b3 := b2.trans (b3.mono b2.size)
  obtain ⟨A1, cap1, rfl⟩ := ho1.form
  clear ho1
  go_wp2_with fail
  rw [H2.out.m]
  go_wp2_with fail
  rw [H2.out.e]
  show Calls _ _ _ _ _
  refine (C2.out _ b3).mono ?_
  rintro e w5 ⟨u2, rfl, ho2, b5'⟩
  have HO2 : Hid (OwnP w5 w.heap.size u2 K2) := Lib.hid (World.ownsRow.mono ho2 b3.size)
  have HO1 := Lib.hid (HO1.out.call b5')
  have b5 := b3.trans (b5'.mono b3.size)
  obtain ⟨A2, cap2, rfl⟩ := ho2.form
  clear ho2 b5'
  go_wp2_with fail
  go_ret2
  exact ⟨_, _, rfl, HO1.out, HO2.out, b5⟩
set_option maxRecDepth 100000 in
set_option maxHeartbeats 400000 in
theorem bmost_of (w : World) (r : Value) (t1 t2 g1 : Nat) (v1 v2 : Value) (m z : Int) (hst : Has w r t1 v1 t2 v2 z) (hm1 : Mth "Most" t1 g1 v1)
    (hc1 : ∀ W, Below w.heap.size w W → Calls Tryz.prog g1 #[v1] W fun e w' => e = .returned (.int .i64 m) ∧ Below W.heap.size W w') :
    Calls Tryz.prog 19 #[r] w fun e w' => e = .returned (.int .i64 m) ∧ Below w.heap.size w w' := by
  have H1 := Lib.hid hm1
  have C1 := Lib.hid hc1
  have HS := Lib.hid hst
  clear hm1 hc1 hst
  go_enter Tryz.func19, Tryz.ntmps19
  go_wp2_with fail
  refine (HS.out.st _ (Below.refl _ _)).mono ?_
  rintro e w2 ⟨rfl, b2⟩
  go_wp2_with fail
  rw [H1.out.m]
  go_wp2_with fail
  rw [H1.out.e]
  show Calls _ _ _ _ _
  refine (C1.out _ b2).mono ?_
  rintro e w3 ⟨rfl, b3⟩
  have b3 := b2.trans (b3.mono b2.size)
  go_wp2_with fail
  go_ret
  exact ⟨rfl, b3⟩
end Go.Proofs.YtdnmeninglfhlaaGreatDoor

/-
  Walks: package bins: Find, Rank, Add.
-/
namespace Go.Proofs.YtdnmeninglfhlaaGreatDoor
set_option linter.unusedVariables false
set_option linter.unusedSimpArgs false
open Go.RowKit

/-- Bins in memory, by their parts. -/
structure BnP (w : World) (B : Nat) (S R : Nat → Prop) (P : Pt) (s : Bool) (m : Int) (st : St) (V : Value) (t1 : Nat) (v1 : Value) (S1 : Nat → Prop) (t2 : Nat) (v2 : Value) (S2 : Nat → Prop) : Prop where
  c : BnC w B V s t1 v1 t2 v2 st.z
  p : PtX w V R P
  a : StoT w t1 v1 S1 s m st.k1 st.t1
  b : StoT w t2 v2 S2 s m st.k2 st.t2
  n1 : ¬ S1 B
  n2 : ¬ S2 B
  nr : ¬ R B
  d : ∀ k, S1 k → ¬ S2 k
  r1 : ∀ k, S1 k → ¬ R k
  r2 : ∀ k, S2 k → ¬ R k
  S : ∀ k, S k ↔ (k = B ∨ S1 k ∨ S2 k)
  z0 : 0 ≤ st.z
  all : st.all ≤ 9223372036854775807
def BnX (w : World) (B : Nat) (S R : Nat → Prop) (P : Pt) (s : Bool) (m : Int) (st : St) : Prop := ∃ V t1 v1 S1 t2 v2 S2, BnP w B S R P s m st V t1 v1 S1 t2 v2 S2
theorem bnp_keep {w w' : World} {B : Nat} {S R : Nat → Prop} {P : Pt} {s : Bool} {m : Int} {st : St} {V : Value} {t1 : Nat} {v1 : Value} {S1 : Nat → Prop} {t2 : Nat} {v2 : Value} {S2 : Nat → Prop} (h : BnP w B S R P s m st V t1 v1 S1 t2 v2 S2) (hk : ∀ k, S k ∨ R k → w'.heap[k]? = w.heap[k]?) : BnP w' B S R P s m st V t1 v1 S1 t2 v2 S2 :=
  { h with
    c := ⟨(hk B (Or.inl ((h.S B).2 (Or.inl rfl)))).trans h.c.b⟩
    p := ptx_keep h.p fun k hk' => hk k (Or.inr hk')
    a := sto_keep h.a fun k hk' => hk k (Or.inl ((h.S k).2 (Or.inr (Or.inl hk'))))
    b := sto_keep h.b fun k hk' => hk k (Or.inl ((h.S k).2 (Or.inr (Or.inr hk')))) }
theorem bnp_lt {w : World} {B : Nat} {S R : Nat → Prop} {P : Pt} {s : Bool} {m : Int} {st : St} {V : Value} {t1 : Nat} {v1 : Value} {S1 : Nat → Prop} {t2 : Nat} {v2 : Value} {S2 : Nat → Prop} (h : BnP w B S R P s m st V t1 v1 S1 t2 v2 S2) : ∀ k, S k ∨ R k → k < w.heap.size := fun k hk => by
  rcases hk with hk | hk
  · rcases (h.S k).1 hk with rfl | hk | hk
    · exact lt_of_block h.c.b
    · exact sto_lt h.a k hk
    · exact sto_lt h.b k hk
  · exact ptx_lt h.p k hk
theorem bnp_call {w w' : World} {B : Nat} {S R : Nat → Prop} {P : Pt} {s : Bool} {m : Int} {st : St} {V : Value} {t1 : Nat} {v1 : Value} {S1 : Nat → Prop} {t2 : Nat} {v2 : Value} {S2 : Nat → Prop} (h : BnP w B S R P s m st V t1 v1 S1 t2 v2 S2) (hb : Below w.heap.size w w') : BnP w' B S R P s m st V t1 v1 S1 t2 v2 S2 := bnp_keep h fun k hk => hb.block k (bnp_lt h k hk)
/-- One store turned; noughts turned. -/
theorem bnp_one {w w' : World} {B : Nat} {S R : Nat → Prop} {P : Pt} {s : Bool} {m : Int} {st : St} {V : Value} {t1 : Nat} {v1 : Value} {S1 : Nat → Prop} {t2 : Nat} {v2 : Value} {S2 S' : Nat → Prop} {K : List PairV} {T : Int} (h : BnP w B S R P s m st V t1 v1 S1 t2 v2 S2) (hk : Keeps S1 w w') (ha : StoT w' t1 v1 S' s m K T) (hS : ∀ k, S' k → S1 k ∨ w.heap.size ≤ k) (hT : T + st.t2 + st.z ≤ 9223372036854775807) :
    BnP w' B (fun k => k = B ∨ S' k ∨ S2 k) R P s m { st with k1 := K, t1 := T } V t1 v1 S' t2 v2 S2 := by
  have hB := lt_of_block h.c.b
  have new : ∀ k, S' k → k < w.heap.size → S1 k := fun k h1 h2 => by
    rcases hS k h1 with h' | h'
    · exact h'
    · omega
  exact { c := ⟨(hk.block B hB h.n1).trans h.c.b⟩
          p := ptx_keep h.p fun k hr => hk.block k (ptx_lt h.p k hr) (fun h1 => h.r1 k h1 hr)
          a := ha
          b := sto_keep h.b fun k h2 => hk.block k (sto_lt h.b k h2) (fun h1 => h.d k h1 h2)
          n1 := fun x => h.n1 (new B x hB)
          n2 := h.n2
          nr := h.nr
          d := fun k h1 h2 => h.d k (new k h1 (sto_lt h.b k h2)) h2
          r1 := fun k h1 hr => h.r1 k (new k h1 (ptx_lt h.p k hr)) hr
          r2 := h.r2
          S := fun k => Iff.rfl
          z0 := h.z0
          all := hT }
theorem bnp_two {w w' : World} {B : Nat} {S R : Nat → Prop} {P : Pt} {s : Bool} {m : Int} {st : St} {V : Value} {t1 : Nat} {v1 : Value} {S1 : Nat → Prop} {t2 : Nat} {v2 : Value} {S2 S' : Nat → Prop} {K : List PairV} {T : Int} (h : BnP w B S R P s m st V t1 v1 S1 t2 v2 S2) (hk : Keeps S2 w w') (ha : StoT w' t2 v2 S' s m K T) (hS : ∀ k, S' k → S2 k ∨ w.heap.size ≤ k) (hT : st.t1 + T + st.z ≤ 9223372036854775807) :
    BnP w' B (fun k => k = B ∨ S1 k ∨ S' k) R P s m { st with k2 := K, t2 := T } V t1 v1 S1 t2 v2 S' := by
  have hB := lt_of_block h.c.b
  have new : ∀ k, S' k → k < w.heap.size → S2 k := fun k h1 h2 => by
    rcases hS k h1 with h' | h'
    · exact h'
    · omega
  exact { c := ⟨(hk.block B hB h.n2).trans h.c.b⟩
          p := ptx_keep h.p fun k hr => hk.block k (ptx_lt h.p k hr) (fun h1 => h.r2 k h1 hr)
          a := sto_keep h.a fun k h2 => hk.block k (sto_lt h.a k h2) (fun h1 => h.d k h2 h1)
          b := ha
          n1 := h.n1
          n2 := fun x => h.n2 (new B x hB)
          nr := h.nr
          d := fun k h1 h2 => h.d k h1 (new k h2 (sto_lt h.a k h1))
          r1 := h.r1
          r2 := fun k h1 hr => h.r2 k (new k h1 (ptx_lt h.p k hr)) hr
          S := fun k => Iff.rfl
          z0 := h.z0
          all := hT }
theorem bnp_zero {w : World} {B : Nat} {S R : Nat → Prop} {P : Pt} {s : Bool} {m : Int} {st : St} {V : Value} {t1 : Nat} {v1 : Value} {S1 : Nat → Prop} {t2 : Nat} {v2 : Value} {S2 : Nat → Prop} {z : Int} (h : BnP w B S R P s m st V t1 v1 S1 t2 v2 S2) (z0 : 0 ≤ z) (hT : st.t1 + st.t2 + z ≤ 9223372036854775807) :
    BnP (w.setCell ⟨B, 4, none⟩ (.int .u64 z)) B S R P s m { st with z := z } V t1 v1 S1 t2 v2 S2 := by
  have hh : ∀ k, k ≠ B → (w.setCell ⟨B, 4, none⟩ (.int .u64 z)).heap[k]? = w.heap[k]? := fun k hk => Below.heap_setCell w _ _ k hk
  exact { h with
    c := ⟨set_cells11 h.c.b 4 (.int .u64 z)⟩
    p := ptx_keep h.p fun k hr => hh k (fun e => h.nr (e ▸ hr))
    a := sto_keep h.a fun k hr => hh k (fun e => h.n1 (e ▸ hr))
    b := sto_keep h.b fun k hr => hh k (fun e => h.n2 (e ▸ hr))
    z0 := z0
    all := hT }
theorem keeps_more {S S' : Nat → Prop} {w w' : World} (h : Keeps S w w') (hs : ∀ k, S k → S' k) : Keeps S' w w' := ⟨h.os, h.tape, h.output, h.size, fun k hk hn => h.block k hk fun x => hn (hs k x)⟩
theorem bnp_t {w : World} {B : Nat} {S R : Nat → Prop} {P : Pt} {s : Bool} {m : Int} {st : St} {V : Value} {t1 : Nat} {v1 : Value} {S1 : Nat → Prop} {t2 : Nat} {v2 : Value} {S2 : Nat → Prop} (h : BnP w B S R P s m st V t1 v1 S1 t2 v2 S2) : 0 ≤ sumP st.k1 ∧ sumP st.k1 ≤ st.t1 ∧ 0 ≤ sumP st.k2 ∧ sumP st.k2 ≤ st.t2 := by
  have h1 := sto_kept h.a
  have h2 := sto_kept h.b
  cases s with
  | false =>
    have h1 : Lwp m st.k1 st.t1 := h1
    have h2 : Lwp m st.k2 st.t2 := h2
    exact ⟨h1.pos, h1.sum, h2.pos, h2.sum⟩
  | true =>
    have h1 : Hgp m st.k1 st.t1 := h1
    have h2 : Hgp m st.k2 st.t2 := h2
    exact ⟨h1.pos, h1.sum, h2.pos, h2.sum⟩
theorem bnp_total {w : World} {B : Nat} {S R : Nat → Prop} {P : Pt} {s : Bool} {m : Int} {st : St} {V : Value} {t1 : Nat} {v1 : Value} {S1 : Nat → Prop} {t2 : Nat} {v2 : Value} {S2 : Nat → Prop} (h : BnP w B S R P s m st V t1 v1 S1 t2 v2 S2) (l1 : st.k1.length ≤ 500) (l2 : st.k2.length ≤ 500) :
    Calls Tryz.prog 13 #[.pointer (some ⟨B, 0, none⟩)] w fun e w' => e = .returned (.int .u64 st.all) ∧ Below w.heap.size w w' := by
  obtain ⟨g1, m1, c1⟩ := sto_total h.a
  obtain ⟨g2, m2, c2⟩ := sto_total h.b
  obtain ⟨x1, x2, x3, x4⟩ := bnp_t h
  have e : st.all = st.t1 + st.z + st.t2 := by show st.t1 + st.t2 + st.z = _; omega
  have := h.all
  rw [e] at this ⊢
  exact btotal_of w _ _ _ _ _ _ _ _ _ _ (has_at h.c) m1 m2 (fun W hb => c1 W _ _ _ (sto_call h.a hb) (by omega)) (fun W hb => c2 W _ _ _ (sto_call h.b hb) (by omega)) (by omega) (by omega) h.z0 this

set_option maxRecDepth 100000 in
set_option maxHeartbeats 400000 in
theorem bstand_none (w : World) (r : Value) (t g : Nat) (v : Value) (x : Int) (neg : Bool) (i : Int) (hm : Mth "Find" t g v)
    (hc : Calls Tryz.prog g #[v, .int .u64 x] w fun e w' => e = .returned (.tuple #[.int .i64 i, .bool false]) ∧ Below w.heap.size w w') :
    Calls Tryz.prog 34 #[r, .iface t v, .int .u64 x, .bool neg] w fun e w' => e = .returned (.tuple #[.int .i64 0, .bool false]) ∧ Below w.heap.size w w' := by
  have H := Lib.hid hm
  have C := Lib.hid hc
  clear hm hc
  go_enter Tryz.func34, Tryz.ntmps34
  go_wp2_with fail
  rw [H.out.m]
  go_wp2_with fail
  rw [H.out.e]
  show Calls _ _ _ _ _
  refine (C.out).mono ?_
  rintro e w2 ⟨rfl, b2⟩
  go_wp2_with fail
  go_ret2
  exact ⟨rfl, b2⟩

set_option maxRecDepth 100000 in
set_option maxHeartbeats 400000 in
theorem bstand_some (w : World) (B : Nat) (tp gp : Nat) (vp : Value) (t g : Nat) (v : Value) (x : Int) (neg : Bool) (i q y : Int) (h0 : w.cell? ⟨B, 0, none⟩ = some (.iface tp vp)) (hm : Mth "Find" t g v)
    (hc : Calls Tryz.prog g #[v, .int .u64 x] w fun e w' => e = .returned (.tuple #[.int .i64 i, .bool true]) ∧ Below w.heap.size w w')
    (hm2 : Mth "Rep" tp gp vp) (hr : ∀ W, Below w.heap.size w W → Calls Tryz.prog gp #[vp, .int .i64 i] W fun e w' => e = .returned (.int .u64 q) ∧ Below W.heap.size W w')
    (q0 : 0 ≤ q) (q1 : q ≤ 9223372036854775808) (hy : (if neg = true then -q else min q 9223372036854775807) = y) :
    Calls Tryz.prog 34 #[.pointer (some ⟨B, 0, none⟩), .iface t v, .int .u64 x, .bool neg] w fun e w' => e = .returned (.tuple #[.int .i64 y, .bool true]) ∧ Below w.heap.size w w' := by
  have H := Lib.hid hm
  have C := Lib.hid hc
  have HR := Lib.hid hr
  have H2 := Lib.hid hm2
  have HY := Lib.hid hy
  clear hm hc hr hm2 hy
  cases neg with
  | true =>
    have e1 : valI q true = y := by
      rw [← HY.out, if_pos rfl]; unfold valI canB; rw [if_pos (by simp; omega), if_pos rfl]
    have e2 : canB q true = true := by unfold canB; simp; omega
    have HV := Lib.hid (fun W => value_any q true ⟨q0, by omega⟩ W)
    rw [e1, e2] at HV
    clear e1 e2
    go_enter Tryz.func34, Tryz.ntmps34
    go_wp2_with fail
    rw [H.out.m]
    go_wp2_with fail
    rw [H.out.e]
    show Calls _ _ _ _ _
    refine (C.out).mono ?_
    rintro e w2 ⟨rfl, b2⟩
    have h0 := cell_later b2 h0
    go_wp2_with fail
    rw [H2.out.m]
    go_wp2_with fail
    rw [H2.out.e]
    show Calls _ _ _ _ _
    refine (HR.out _ b2).mono ?_
    rintro e w3 ⟨rfl, b3⟩
    have b3 := b2.trans (b3.mono b2.size)
    go_wp2_with fail
    refine (HV.out _).mono ?_
    rintro e w4 ⟨rfl, rfl⟩
    go_wp2_with fail
    go_ret2
    exact ⟨rfl, b3⟩
  | false =>
    obtain ⟨mn, hmn⟩ : ∃ mn, min q 9223372036854775807 = mn := ⟨_, rfl⟩
    have mn0 : 0 ≤ mn ∧ mn ≤ 9223372036854775807 := by omega
    have e1 : valI mn false = y := by
      rw [← HY.out, if_neg (by decide), hmn]; unfold valI canB; rw [if_pos (by simp; omega), if_neg (by decide)]
    have e2 : canB mn false = true := by unfold canB; simp; omega
    have HV := Lib.hid (fun W => value_any mn false ⟨mn0.1, by omega⟩ W)
    rw [e1, e2] at HV
    have HMN := Lib.hid hmn
    clear e1 e2 hmn mn0
    go_enter Tryz.func34, Tryz.ntmps34
    go_wp2_with fail
    rw [H.out.m]
    go_wp2_with fail
    rw [H.out.e]
    show Calls _ _ _ _ _
    refine (C.out).mono ?_
    rintro e w2 ⟨rfl, b2⟩
    have h0 := cell_later b2 h0
    go_wp2_with fail
    rw [H2.out.m]
    go_wp2_with fail
    rw [H2.out.e]
    show Calls _ _ _ _ _
    refine (HR.out _ b2).mono ?_
    rintro e w3 ⟨rfl, b3⟩
    have b3 := b2.trans (b3.mono b2.size)
    go_wp2_with fail
    rw [HMN.out]
    refine (HV.out _).mono ?_
    rintro e w4 ⟨rfl, rfl⟩
    go_wp2_with fail
    go_ret2
    exact ⟨rfl, b3⟩

set_option maxRecDepth 100000 in
set_option maxHeartbeats 400000 in
theorem baround_of (w : World) (t g : Nat) (v : Value) (i a b c d : Int) (i0 : -9223372036854775807 ≤ i) (i1 : i ≤ 9223372036854775807) (hm : Mth "Below" t g v)
    (hc : ∀ W j, Below w.heap.size w W → i - 1 = j → Calls Tryz.prog g #[v, .int .i64 j] W fun e w' => e = .returned (.tuple #[.int .u64 a, .int .u64 b]) ∧ Below W.heap.size W w')
    (hd : ∀ W, Below w.heap.size w W → Calls Tryz.prog g #[v, .int .i64 i] W fun e w' => e = .returned (.tuple #[.int .u64 c, .int .u64 d]) ∧ Below W.heap.size W w') :
    Calls Tryz.prog 36 #[.iface t v, .int .i64 i] w fun e w' => e = .returned (.tuple #[.int .u64 a, .int .u64 d]) ∧ Below w.heap.size w w' := by
  have H := Lib.hid hm
  have C := Lib.hid hc
  have D := Lib.hid hd
  clear hm hc hd
  go_enter Tryz.func36, Tryz.ntmps36
  go_wp2_with fail
  rw [H.out.m]
  go_wp2_with fail
  rw [H.out.e]
  show Calls _ _ _ _ _
  refine (C.out _ _ (Below.refl _ _) (by first | rfl | go_num | (simp; omega))).mono ?_
  rintro e w2 ⟨rfl, b2⟩
  go_wp2_with fail
  rw [H.out.m]
  go_wp2_with fail
  rw [H.out.e]
  show Calls _ _ _ _ _
  refine (D.out _ b2).mono ?_
  rintro e w3 ⟨rfl, b3⟩
  have b3 := b2.trans (b3.mono b2.size)
  go_wp2_with fail
  go_ret2
  exact ⟨rfl, b3⟩

set_option maxRecDepth 100000 in
set_option maxHeartbeats 1000000 in
theorem bfind_of (w : World) (r : Value) (t1 t2 g1 : Nat) (v1 v2 : Value) (T z t y : Int) (ok : Bool) (wt : Word t) (hst : Has w r t1 v1 t2 v2 z) (hm1 : Mth "Total" t1 g1 v1)
    (hc1 : ∀ W, Below w.heap.size w W → Calls Tryz.prog g1 #[v1] W fun e w' => e = .returned (.int .u64 T) ∧ Below W.heap.size W w')
    (T0 : 0 ≤ T) (z0 : 0 ≤ z) (Tz : T + z ≤ 9223372036854775807)
    (h0 : t = 0 → y = 0 ∧ ok = false)
    (h1 : 1 ≤ t → t ≤ T → ∀ W x, Below w.heap.size w W → T - t + 1 = x → Calls Tryz.prog 34 #[r, .iface t1 v1, .int .u64 x, .bool true] W fun e w' => e = .returned (.tuple #[.int .i64 y, .bool ok]) ∧ Below W.heap.size W w')
    (h2 : T < t → t ≤ T + z → y = 0 ∧ ok = true)
    (h3 : T + z < t → ∀ W x, Below w.heap.size w W → t - (T + z) = x → Calls Tryz.prog 34 #[r, .iface t2 v2, .int .u64 x, .bool false] W fun e w' => e = .returned (.tuple #[.int .i64 y, .bool ok]) ∧ Below W.heap.size W w') :
    Calls Tryz.prog 9 #[r, .int .u64 t] w fun e w' => e = .returned (.tuple #[.int .i64 y, .bool ok]) ∧ Below w.heap.size w w' := by
  have H1 := Lib.hid hm1
  have C1 := Lib.hid hc1
  have HS := Lib.hid hst
  have A0 := Lib.hid h0
  have A1 := Lib.hid h1
  have A2 := Lib.hid h2
  have A3 := Lib.hid h3
  obtain ⟨w0, w1⟩ := wt
  clear hm1 hc1 hst h0 h1 h2 h3
  by_cases e0 : t = 0
  · obtain ⟨rfl, rfl⟩ := A0.out e0
    subst e0
    go_enter Tryz.func9, Tryz.ntmps9
    go_wp2_with fail
    go_ret2
    exact ⟨rfl, Below.refl _ _⟩
  have e1 : (t == 0) = false := by simp [e0]
  go_enter Tryz.func9, Tryz.ntmps9
  go_wp2_with fail
  refine (HS.out.st _ (Below.refl _ _)).mono ?_
  rintro e w2 ⟨rfl, b2⟩
  go_wp2_with fail
  rw [H1.out.m]
  go_wp2_with fail
  rw [H1.out.e]
  show Calls _ _ _ _ _
  refine (C1.out _ b2).mono ?_
  rintro e w3 ⟨rfl, b3⟩
  have b3 := b2.trans (b3.mono b2.size)
  by_cases k1 : t ≤ T
  · go_wp2_with fail
    refine (HS.out.ze _ b3).mono ?_
    rintro e w4 ⟨rfl, b4⟩
    have b4 := b3.trans (b4.mono b3.size)
    go_wp2_with fail
    refine (A1.out (by omega) k1 _ _ b4 (by first | rfl | go_num | (simp; omega))).mono ?_
    rintro e w5 ⟨rfl, b5⟩
    go_wp2_with fail
    go_ret2
    exact ⟨rfl, b4.trans (b5.mono b4.size)⟩
  by_cases k2 : t ≤ T + z
  · obtain ⟨rfl, rfl⟩ := A2.out (by omega) k2
    go_wp2_with fail
    refine (HS.out.ze _ b3).mono ?_
    rintro e w4 ⟨rfl, b4⟩
    have b4 := b3.trans (b4.mono b3.size)
    go_wp2_with fail
    go_ret2
    exact ⟨rfl, b4⟩
  · go_wp2_with fail
    refine (HS.out.ze _ b3).mono ?_
    rintro e w4 ⟨rfl, b4⟩
    have b4 := b3.trans (b4.mono b3.size)
    go_wp2_with fail
    refine (A3.out (by omega) _ _ b4 (by first | rfl | go_num | (simp; omega))).mono ?_
    rintro e w5 ⟨rfl, b5⟩
    go_wp2_with fail
    go_ret2
    exact ⟨rfl, b4.trans (b5.mono b4.size)⟩

theorem seek_past (t : Int) : ∀ (A : List PairV) (a : Int), (∀ p, p ∈ A → 0 ≤ p.2) → a + sumP A < t → seekP t a A = none := by
  intro A
  induction A with
  | nil => intro a _ _; rfl
  | cons p r ih =>
    intro a h hs
    rw [sumP_cons] at hs
    have h1 := sumP_pos (fun q hq => h q (by simp [hq])) (L := r)
    rw [seek_cons, if_neg (by omega)]
    exact ih _ (fun q hq => h q (by simp [hq])) (by omega)
theorem seek_key (t x : Int) : ∀ (A : List PairV) (a : Int), seekP t a A = some x → ∃ p, p ∈ A ∧ p.1 = x := by
  intro A
  induction A with
  | nil => intro a h; cases h
  | cons p r ih =>
    intro a h
    rw [seek_cons] at h
    split at h
    · exact ⟨p, by simp, Option.some.inj h⟩
    · obtain ⟨q, hq, e⟩ := ih _ h
      exact ⟨q, by simp [hq], e⟩
theorem find_key {t x : Int} {A : List PairV} (h : findP A t = some x) : ∃ p, p ∈ A ∧ p.1 = x := by
  unfold findP at h
  split at h
  · exact seek_key t x A 0 h
  · cases h
theorem kept_pos {s : Bool} {m T : Int} {K : List PairV} (h : KeptP s m K T) : (∀ p, p ∈ K → okP p) ∧ 0 ≤ sumP K ∧ sumP K ≤ T ∧ T ≤ 9223372036854775807 ∧ 1 ≤ m ∧ m ≤ 4096 := by
  cases s with
  | false =>
    have h : Lwp m K T := h
    exact ⟨h.ok, h.pos, h.sum, h.top, h.m1, h.m2⟩
  | true =>
    have h : Hgp m K T := h
    exact ⟨h.ok, h.pos, h.sum, h.top, h.m1, h.m2⟩
theorem finds_out {s : Bool} {m T t : Int} {K : List PairV} (h : KeptP s m K T) (ht : T < t) : findS s K (T - sumP K) t = none := by
  obtain ⟨ho, p0, p1, _⟩ := kept_pos h
  have hp := ok_pos ho
  unfold findS
  cases s with
  | false =>
    rw [if_neg (by decide)]; unfold findL findP
    rw [if_neg (by omega), if_pos (by omega)]
    exact seek_past _ K 0 hp (by omega)
  | true =>
    rw [if_pos rfl]; unfold findH findP
    rw [if_pos (by omega)]
    exact seek_past _ K 0 hp (by omega)
theorem finds_i64 {s : Bool} {m T t i : Int} {K : List PairV} (h : KeptP s m K T) (hf : findS s K (T - sumP K) t = some i) : I64 i := by
  obtain ⟨ho, _⟩ := kept_pos h
  have key : ∀ t, findP K t = some i → I64 i := fun t h => by
    obtain ⟨p, hp, e⟩ := find_key h
    rw [← e]; exact (ho p hp).1
  unfold findS at hf
  cases s with
  | false =>
    rw [if_neg (by decide)] at hf; unfold findL at hf
    split at hf
    · cases hf
    · exact key _ hf
  | true => rw [if_pos rfl] at hf; exact key _ hf

theorem bnp_stand {w : World} {B : Nat} {S R : Nat → Prop} {P : Pt} {s : Bool} {m : Int} {st : St} {V : Value} {t1 : Nat} {v1 : Value} {S1 : Nat → Prop} {t2 : Nat} {v2 : Value} {S2 : Nat → Prop} (h : BnP w B S R P s m st V t1 v1 S1 t2 v2 S2) {t : Nat} {v : Value} {S0 : Nat → Prop} {K : List PairV} {T : Int} (hs : StoT w t v S0 s m K T) (hl : K.length ≤ 500) (x : Int) (hx : Word x) (neg : Bool) (f : Option Int)
    (hf : (findS s K (T - sumP K) x).map (fun i => if neg = true then -(P.rep i) else min (P.rep i) 9223372036854775807) = f) :
    Calls Tryz.prog 34 #[.pointer (some ⟨B, 0, none⟩), .iface t v, .int .u64 x, .bool neg] w fun e w' => e = .returned (.tuple #[.int .i64 (f.getD 0), .bool f.isSome]) ∧ Below w.heap.size w w' := by
  obtain ⟨g, hm, hc⟩ := sto_find hs
  have hc := hc w S0 K T x hs (by omega) hx
  obtain ⟨tp, vp, gp, rfl, hm2, hr⟩ := pt_rep h.p
  have hP := ptx_ok h.p
  obtain ⟨o, ho⟩ : ∃ o, findS s K (T - sumP K) x = o := ⟨_, rfl⟩
  rw [ho] at hc hf
  cases o with
  | none =>
    subst hf
    exact bstand_none w _ t g v x neg _ hm hc
  | some i =>
    subst hf
    obtain ⟨q0, q1⟩ := rep_bd hP i
    exact bstand_some w B tp gp vp t g v x neg i (P.rep i) _ h.c.c0 hm hc hm2 (fun W hb => hr W i (ptx_call h.p hb) (finds_i64 (sto_kept hs) ho)) q0 q1 rfl

theorem bnp_find {w : World} {B : Nat} {S R : Nat → Prop} {P : Pt} {s : Bool} {m : Int} {st : St} {V : Value} {t1 : Nat} {v1 : Value} {S1 : Nat → Prop} {t2 : Nat} {v2 : Value} {S2 : Nat → Prop} (h : BnP w B S R P s m st V t1 v1 S1 t2 v2 S2) (l1 : st.k1.length ≤ 500) (l2 : st.k2.length ≤ 500) (t : Int) (wt : Word t) :
    Calls Tryz.prog 9 #[.pointer (some ⟨B, 0, none⟩), .int .u64 t] w fun e w' => e = .returned (.tuple #[.int .i64 ((findSt P s st t).getD 0), .bool (findSt P s st t).isSome]) ∧ Below w.heap.size w w' := by
  obtain ⟨g1, m1, c1⟩ := sto_total h.a
  obtain ⟨x1, x2, x3, x4⟩ := bnp_t h
  have hall : st.t1 + st.t2 + st.z ≤ 9223372036854775807 := h.all
  have hz := h.z0
  have hw := id wt
  obtain ⟨w0, w1⟩ := hw
  refine bfind_of w _ t1 t2 g1 v1 v2 st.t1 st.z t _ _ wt (has_at h.c) m1 (fun W hb => c1 W _ _ _ (sto_call h.a hb) (by omega)) (by omega) hz (by omega) ?_ ?_ ?_ ?_
  · intro e; unfold findSt; rw [if_pos (by omega)]; exact ⟨rfl, rfl⟩
  · intro a b W x hb hx
    refine bnp_stand (bnp_call h hb) (sto_call h.a hb) l1 x ⟨by omega, by omega⟩ true _ ?_
    unfold findSt; rw [if_neg (by omega), if_pos b, ← hx]; rfl
  · intro a b; unfold findSt; rw [if_neg (by omega), if_neg (by omega), if_pos b]; exact ⟨rfl, rfl⟩
  · intro a W x hb hx
    refine bnp_stand (bnp_call h hb) (sto_call h.b hb) l2 x ⟨by omega, by omega⟩ false _ ?_
    unfold findSt; rw [if_neg (by omega), if_neg (by omega), if_neg (by omega)]
    by_cases c : t ≤ st.t1 + st.z + st.t2
    · rw [if_pos c, show t - st.t1 - st.z = x by omega]; rfl
    · rw [if_neg c, finds_out (sto_kept h.b) (by omega)]; rfl
end Go.Proofs.YtdnmeninglfhlaaGreatDoor

/-
  Walks: package bins: Rank, Add.
-/
namespace Go.Proofs.YtdnmeninglfhlaaGreatDoor
set_option linter.unusedVariables false
set_option linter.unusedSimpArgs false
open Go.RowKit

set_option maxRecDepth 100000 in
set_option maxHeartbeats 1000000 in
theorem brank_flat (w : World) (r : Value) (t1 t2 g1 : Nat) (v1 v2 : Value) (T z x : Int) (hx : I64 x) (hst : Has w r t1 v1 t2 v2 z) (hm1 : Mth "Total" t1 g1 v1)
    (hc1 : ∀ W, Below w.heap.size w W → Calls Tryz.prog g1 #[v1] W fun e w' => e = .returned (.int .u64 T) ∧ Below W.heap.size W w')
    (T0 : 0 ≤ T) (z0 : 0 ≤ z) (Tz : T + z ≤ 9223372036854775807) (hr : r = .pointer none ∨ (x = 0 ∧ ∃ a, r = .pointer (some a))) :
    Calls Tryz.prog 10 #[r, .int .i64 x] w fun e w' => e = .returned (.tuple #[.int .u64 (T + z), .int .u64 (T + z)]) ∧ Below w.heap.size w w' := by
  have H1 := Lib.hid hm1
  have C1 := Lib.hid hc1
  have HS := Lib.hid hst
  clear hm1 hc1 hst
  rcases hr with rfl | ⟨rfl, a, rfl⟩
  · have HO := Lib.hid (fun W => of_any x hx W)
    obtain ⟨mx, hmx⟩ : ∃ mx, mag x = mx := ⟨_, rfl⟩
    obtain ⟨nx, hnx⟩ : ∃ nx, decide (x < 0) = nx := ⟨_, rfl⟩
    rw [hmx, hnx] at HO
    clear hmx hnx
    go_enter Tryz.func10, Tryz.ntmps10
    go_wp2_with fail
    refine (HS.out.st _ (Below.refl _ _)).mono ?_
    rintro e w2 ⟨rfl, b2⟩
    go_wp2_with fail
    rw [H1.out.m]
    go_wp2_with fail
    rw [H1.out.e]
    show Calls _ _ _ _ _
    refine (C1.out _ b2).mono ?_
    rintro e w3 ⟨rfl, b3⟩
    have b3 := b2.trans (b3.mono b2.size)
    go_wp2_with fail
    refine (HS.out.ze _ b3).mono ?_
    rintro e w4 ⟨rfl, b4⟩
    have b4 := b3.trans (b4.mono b3.size)
    go_wp2_with fail
    refine (HO.out _).mono ?_
    rintro e w5 ⟨rfl, rfl⟩
    go_wp2_with fail
    go_ret2
    exact ⟨rfl, b4⟩
  · have HO : Hid (∀ W, Calls Tryz.prog 35 #[.int .i64 0] W fun e w' => e = .returned (.tuple #[.int .u64 0, .bool false]) ∧ W = w') := Lib.hid (fun W => of_any 0 hx W)
    go_enter Tryz.func10, Tryz.ntmps10
    go_wp2_with fail
    refine (HS.out.st _ (Below.refl _ _)).mono ?_
    rintro e w2 ⟨rfl, b2⟩
    go_wp2_with fail
    rw [H1.out.m]
    go_wp2_with fail
    rw [H1.out.e]
    show Calls _ _ _ _ _
    refine (C1.out _ b2).mono ?_
    rintro e w3 ⟨rfl, b3⟩
    have b3 := b2.trans (b3.mono b2.size)
    go_wp2_with fail
    refine (HS.out.ze _ b3).mono ?_
    rintro e w4 ⟨rfl, b4⟩
    have b4 := b3.trans (b4.mono b3.size)
    go_wp2_with fail
    refine (HO.out _).mono ?_
    rintro e w5 ⟨rfl, rfl⟩
    go_wp2_with fail
    go_ret2
    exact ⟨rfl, b4⟩

set_option maxRecDepth 100000 in
set_option maxHeartbeats 1000000 in
theorem brank_of (w : World) (B : Nat) (t1 t2 g1 : Nat) (v1 v2 : Value) (T z x i a b : Int) (tp gp : Nat) (vp : Value) (hx : I64 x) (x0 : x ≠ 0) (hst : Has w (.pointer (some ⟨B, 0, none⟩)) t1 v1 t2 v2 z) (hm1 : Mth "Total" t1 g1 v1)
    (hc1 : ∀ W, Below w.heap.size w W → Calls Tryz.prog g1 #[v1] W fun e w' => e = .returned (.int .u64 T) ∧ Below W.heap.size W w')
    (T0 : 0 ≤ T) (z0 : 0 ≤ z) (Tz : T + z ≤ 9223372036854775807) (h0 : w.cell? ⟨B, 0, none⟩ = some (.iface tp vp)) (hm2 : Mth "Index" tp gp vp)
    (hi : ∀ W, Below w.heap.size w W → Calls Tryz.prog gp #[vp, .int .u64 (mag x)] W fun e w' => e = .returned (.tuple #[.int .i64 i, .bool true]) ∧ Below W.heap.size W w')
    (hn : x < 0 → 0 ≤ a ∧ a ≤ T ∧ 0 ≤ b ∧ b ≤ T ∧ ∀ W, Below w.heap.size w W → Calls Tryz.prog 36 #[.iface t1 v1, .int .i64 i] W fun e w' => e = .returned (.tuple #[.int .u64 a, .int .u64 b]) ∧ Below W.heap.size W w')
    (hp : 0 < x → 0 ≤ a ∧ T + z + a ≤ 9223372036854775807 ∧ 0 ≤ b ∧ T + z + b ≤ 9223372036854775807 ∧ ∀ W, Below w.heap.size w W → Calls Tryz.prog 36 #[.iface t2 v2, .int .i64 i] W fun e w' => e = .returned (.tuple #[.int .u64 a, .int .u64 b]) ∧ Below W.heap.size W w') :
    Calls Tryz.prog 10 #[.pointer (some ⟨B, 0, none⟩), .int .i64 x] w fun e w' => e = .returned (.tuple #[.int .u64 (if x < 0 then T - b else T + z + a), .int .u64 (if x < 0 then T - a else T + z + b)]) ∧ Below w.heap.size w w' := by
  have H1 := Lib.hid hm1
  have H2 := Lib.hid hm2
  have C1 := Lib.hid hc1
  have HI := Lib.hid hi
  have HS := Lib.hid hst
  have HN := Lib.hid hn
  have HP := Lib.hid hp
  have hmg := mag_in hx x0
  have HO := Lib.hid (fun W => of_any x hx W)
  obtain ⟨mx, hmx⟩ : ∃ mx, mag x = mx := ⟨_, rfl⟩
  rw [hmx] at HO HI hmg
  obtain ⟨mg1, mg2⟩ := hmg
  have mg0 : (mx == 0) = false := by simp; omega
  clear hm1 hm2 hc1 hi hst hn hp hmx
  by_cases hn0 : x < 0
  · obtain ⟨a0, a1, b0, b1, har⟩ := HN.out hn0
    have HA := Lib.hid har
    have hd : decide (x < 0) = true := decide_eq_true hn0
    rw [hd] at HO
    rw [if_pos hn0, if_pos hn0]
    clear har hd HN HP hn0 x0 hx
    go_enter Tryz.func10, Tryz.ntmps10
    go_wp2_with fail
    refine (HS.out.st _ (Below.refl _ _)).mono ?_
    rintro e w2 ⟨rfl, b2⟩
    go_wp2_with fail
    rw [H1.out.m]
    go_wp2_with fail
    rw [H1.out.e]
    show Calls _ _ _ _ _
    refine (C1.out _ b2).mono ?_
    rintro e w3 ⟨rfl, b3⟩
    have b3 := b2.trans (b3.mono b2.size)
    go_wp2_with fail
    refine (HS.out.ze _ b3).mono ?_
    rintro e w4 ⟨rfl, b4⟩
    have b4 := b3.trans (b4.mono b3.size)
    have h4 := cell_later b4 h0
    go_wp2_with fail
    refine (HO.out _).mono ?_
    rintro e w5 ⟨rfl, rfl⟩
    go_wp2_with fail
    rw [H2.out.m]
    go_wp2_with fail
    rw [H2.out.e]
    show Calls _ _ _ _ _
    refine (HI.out _ b4).mono ?_
    rintro e w6 ⟨rfl, b6⟩
    have b6 := b4.trans (b6.mono b4.size)
    go_wp2_with fail
    refine (HA.out _ b6).mono ?_
    rintro e w7 ⟨rfl, b7⟩
    have b7 := b6.trans (b7.mono b6.size)
    go_wp2_with fail
    go_ret2
    exact ⟨rfl, b7⟩
  · obtain ⟨a0, a1, b0, b1, har⟩ := HP.out (by omega)
    have HA := Lib.hid har
    have hd : decide (x < 0) = false := decide_eq_false hn0
    rw [hd] at HO
    rw [if_neg hn0, if_neg hn0]
    clear har hd HN HP hn0 x0 hx
    go_enter Tryz.func10, Tryz.ntmps10
    go_wp2_with fail
    refine (HS.out.st _ (Below.refl _ _)).mono ?_
    rintro e w2 ⟨rfl, b2⟩
    go_wp2_with fail
    rw [H1.out.m]
    go_wp2_with fail
    rw [H1.out.e]
    show Calls _ _ _ _ _
    refine (C1.out _ b2).mono ?_
    rintro e w3 ⟨rfl, b3⟩
    have b3 := b2.trans (b3.mono b2.size)
    go_wp2_with fail
    refine (HS.out.ze _ b3).mono ?_
    rintro e w4 ⟨rfl, b4⟩
    have b4 := b3.trans (b4.mono b3.size)
    have h4 := cell_later b4 h0
    go_wp2_with fail
    refine (HO.out _).mono ?_
    rintro e w5 ⟨rfl, rfl⟩
    go_wp2_with fail
    rw [H2.out.m]
    go_wp2_with fail
    rw [H2.out.e]
    show Calls _ _ _ _ _
    refine (HI.out _ b4).mono ?_
    rintro e w6 ⟨rfl, b6⟩
    have b6 := b4.trans (b6.mono b4.size)
    go_wp2_with fail
    refine (HA.out _ b6).mono ?_
    rintro e w7 ⟨rfl, b7⟩
    have b7 := b6.trans (b7.mono b6.size)
    go_wp2_with fail
    go_ret2
    exact ⟨rfl, b7⟩

theorem lows_bd {s : Bool} {m T : Int} {K : List PairV} (h : KeptP s m K T) (i : Int) : 0 ≤ lowS s m K (T - sumP K) i ∧ lowS s m K (T - sumP K) i ≤ T ∧ 0 ≤ highS s m K (T - sumP K) i ∧ highS s m K (T - sumP K) i ≤ T := by
  obtain ⟨ho, p0, p1, _⟩ := kept_pos h
  have h1 := below_le (L := K) i (ok_pos ho)
  have h2 : 0 ≤ belowP K i := (sumP_filter _ (ok_pos ho)).1
  unfold lowS highS
  cases s with
  | false => rw [if_neg (by decide), if_neg (by decide)]; unfold lowB highB; split <;> omega
  | true => rw [if_pos rfl, if_pos rfl]; unfold lowBH highBH; split <;> omega

theorem bnp_rank {w : World} {B : Nat} {S R : Nat → Prop} {P : Pt} {s : Bool} {m : Int} {st : St} {V : Value} {t1 : Nat} {v1 : Value} {S1 : Nat → Prop} {t2 : Nat} {v2 : Value} {S2 : Nat → Prop} (h : BnP w B S R P s m st V t1 v1 S1 t2 v2 S2) (l1 : st.k1.length ≤ 500) (l2 : st.k2.length ≤ 500) (x : Int) (hx : I64 x) :
    Calls Tryz.prog 10 #[.pointer (some ⟨B, 0, none⟩), .int .i64 x] w fun e w' => e = .returned (.tuple #[.int .u64 (rankSt P s m st x).1, .int .u64 (rankSt P s m st x).2]) ∧ Below w.heap.size w w' := by
  obtain ⟨g1, m1, c1⟩ := sto_total h.a
  obtain ⟨y1, y2, y3, y4⟩ := bnp_t h
  have hall : st.t1 + st.t2 + st.z ≤ 9223372036854775807 := h.all
  have hz := h.z0
  by_cases x0 : x = 0
  · have e : rankSt P s m st x = (st.t1 + st.z, st.t1 + st.z) := by unfold rankSt; rw [if_pos x0]
    rw [e]
    exact brank_flat w _ t1 t2 g1 v1 v2 st.t1 st.z x hx (has_at h.c) m1 (fun W hb => c1 W _ _ _ (sto_call h.a hb) (by omega)) (by omega) hz (by omega) (Or.inr ⟨x0, _, rfl⟩)
  · obtain ⟨mg1, mg2⟩ := mag_in hx x0
    obtain ⟨tp, vp, gp, rfl, hm2, hi⟩ := pt_index h.p
    have hP := ptx_ok h.p
    have hid := pt_idx hP mg1 mg2
    obtain ⟨i, hi'⟩ : ∃ i, P.idx (mag x) = i := ⟨_, rfl⟩
    have ar : ∀ {t : Nat} {v : Value} {S0 : Nat → Prop} {K : List PairV} {T : Int}, StoT w t v S0 s m K T → K.length ≤ 500 → ∀ W, Below w.heap.size w W → Calls Tryz.prog 36 #[.iface t v, .int .i64 i] W fun e w' => e = .returned (.tuple #[.int .u64 (lowS s m K (T - sumP K) (i - 1)), .int .u64 (highS s m K (T - sumP K) i)]) ∧ Below W.heap.size W w' := by
      intro t v S0 K T hs hl W hb
      obtain ⟨g, hm, hc⟩ := sto_below hs
      exact baround_of W t g v i _ _ _ _ (by omega) (by omega) hm (fun W' j hb' hj => by subst hj; exact hc W' S0 K T (i - 1) (sto_call (sto_call hs hb) hb') (by omega) (by unfold I64; omega)) (fun W' hb' => hc W' S0 K T i (sto_call (sto_call hs hb) hb') (by omega) (by unfold I64; omega))
    have q1 := lows_bd (sto_kept h.a) (i - 1)
    have q2 := lows_bd (sto_kept h.a) i
    have q3 := lows_bd (sto_kept h.b) (i - 1)
    have q4 := lows_bd (sto_kept h.b) i
    by_cases hn : x < 0
    · have := brank_of w B t1 t2 g1 v1 v2 st.t1 st.z x i _ _ tp gp vp hx x0 (has_at h.c) m1 (fun W hb => c1 W _ _ _ (sto_call h.a hb) (by omega)) (by omega) hz (by omega) h.c.c0 hm2 (fun W hb => by rw [← hi']; exact hi W _ (ptx_call h.p hb) mg1 mg2) (fun _ => ⟨q1.1, q1.2.1, q2.2.2.1, q2.2.2.2, ar h.a l1⟩) (fun hp => by omega)
      have e : rankSt P s m st x = (st.t1 - highS s m st.k1 (st.t1 - sumP st.k1) i, st.t1 - lowS s m st.k1 (st.t1 - sumP st.k1) (i - 1)) := by unfold rankSt; rw [if_neg x0, if_pos hn, hi']
      rw [if_pos hn, if_pos hn] at this
      rw [e]; exact this
    · have := brank_of w B t1 t2 g1 v1 v2 st.t1 st.z x i _ _ tp gp vp hx x0 (has_at h.c) m1 (fun W hb => c1 W _ _ _ (sto_call h.a hb) (by omega)) (by omega) hz (by omega) h.c.c0 hm2 (fun W hb => by rw [← hi']; exact hi W _ (ptx_call h.p hb) mg1 mg2) (fun hp => by omega) (fun _ => ⟨q3.1, by omega, q4.2.2.1, by omega, ar h.b l2⟩)
      have e : rankSt P s m st x = (st.t1 + st.z + lowS s m st.k2 (st.t2 - sumP st.k2) (i - 1), st.t1 + st.z + highS s m st.k2 (st.t2 - sumP st.k2) i) := by unfold rankSt; rw [if_neg x0, if_neg hn, hi']
      rw [if_neg hn, if_neg hn] at this
      rw [e]; exact this
theorem brank_nil (w : World) (x : Int) (hx : I64 x) (hl : Calls Tryz.prog 76 #[.pointer none] w fun e w' => e = .returned (.int .u64 0) ∧ Below w.heap.size w w') :
    Calls Tryz.prog 10 #[.pointer none, .int .i64 x] w fun e w' => e = .returned (.tuple #[.int .u64 0, .int .u64 0]) ∧ Below w.heap.size w w' :=
  brank_flat w _ _ _ _ _ _ 0 0 x hx (has_none w) (lmth_total none) (fun W _ => low_nil.total W) (by decide) (by decide) (by decide) (Or.inl rfl)

set_option maxRecDepth 100000 in
set_option maxHeartbeats 2000000 in
theorem bnp_add {w : World} {B : Nat} {S R : Nat → Prop} {P : Pt} {s : Bool} {m : Int} {st : St} {V : Value} {t1 : Nat} {v1 : Value} {S1 : Nat → Prop} {t2 : Nat} {v2 : Value} {S2 : Nat → Prop} (h : BnP w B S R P s m st V t1 v1 S1 t2 v2 S2) (l1 : st.k1.length ≤ 500) (l2 : st.k2.length ≤ 500) (x c : Int) (hx : I64 x) (hc : Word c) :
    Calls Tryz.prog 15 #[.pointer (some ⟨B, 0, none⟩), .int .i64 x, .int .u64 c] w fun e w' => ∃ S', e = .returned (.int .i64 (binErr st c)) ∧ BnX w' B S' R P s m (binSt P s m st x c) ∧ Keeps S w w' ∧ (∀ k, S' k → S k ∨ w.heap.size ≤ k) := by
  have HT := Lib.hid (bnp_total h l1 l2)
  have HX := Lib.hid h
  obtain ⟨y1, y2, y3, y4⟩ := bnp_t h
  have hall : st.t1 + st.t2 + st.z ≤ 9223372036854775807 := h.all
  have hz := h.z0
  obtain ⟨T, hT⟩ : ∃ T, st.all = T := ⟨_, rfl⟩
  have hT' : st.t1 + st.t2 + st.z = T := hT
  have HXI := Lib.hid hx
  have hcases := lwErr_cases (T := T) (c := c) hc
  have HWC := Lib.hid hc
  have HBE : Hid (binErr st c = lwErr T c) := Lib.hid (by unfold binErr; rw [hT])
  have HSAME : Hid (∀ w', Below w.heap.size w w' → lwErr T c ≠ 0 → BnX w' B S R P s m (binSt P s m st x c)) := Lib.hid (fun w' hb he => by
    have : binSt P s m st x c = st := by unfold binSt; rw [if_neg (by rw [HBE.out]; exact he)]
    rw [this]; exact ⟨_, _, _, _, _, _, _, bnp_call HX.out hb⟩)
  obtain ⟨w0, w1⟩ := hc
  rw [hT] at HT
  rcases hcases with ⟨rfl, e⟩ | ⟨hc0, hfull, e⟩ | ⟨hc0, hfit, e⟩
  · have E := Lib.hid e
    clear e h hT hT' hx
    go_enter Tryz.func15, Tryz.ntmps15
    go_wp2_with fail
    go_ret
    exact ⟨S, ret_int (by rw [HBE.out, E.out]), HSAME.out _ (Below.refl _ _) (by rw [E.out]; decide), Keeps.refl _ _, fun k hk => Or.inl hk⟩
  · have E := Lib.hid e
    have c00 : (c == 0) = false := by simp; omega
    obtain ⟨pb, pq⟩ := plus2_no (x := T) (y := c) (by omega)
    have PB := Lib.hid pb
    have PQ := Lib.hid pq
    clear e pb pq h hT hx
    go_enter Tryz.func15, Tryz.ntmps15
    go_wp2_with fail
    refine HT.out.mono ?_
    rintro e w2 ⟨rfl, b2⟩
    go_wp2_with fail
    refine (plus_two T c 0 false _ _ _ ⟨by omega, by omega⟩ ⟨by omega, by omega⟩ (two_words w2 _ _ _).1 (two_words w2 _ _ _).2 PQ.out PB.out).mono ?_
    rintro e w3 ⟨rfl, rfl⟩
    have hb := b2.alloc b2.size (.cells #[.int .u64 T, .int .u64 c] 22)
    have hz3 := hb.size
    go_wp2_with fail
    go_ret
    exact ⟨S, ret_int (by rw [HBE.out, E.out]), HSAME.out _ hb (by rw [E.out]; decide), Keeps.of_below hb, fun k hk => Or.inl hk⟩
  · have hb0 : binSt P s m st x c = addSt P s m st x c := by unfold binSt; rw [if_pos (by rw [HBE.out]; exact e)]
    have l1e : lwErr st.t1 c = 0 := by unfold lwErr; rw [if_neg (by omega), if_neg (by omega)]
    have l2e : lwErr st.t2 c = 0 := by unfold lwErr; rw [if_neg (by omega), if_neg (by omega)]
    rw [hb0]
    have E := Lib.hid e
    have c00 : (c == 0) = false := by simp; omega
    obtain ⟨pb, pq⟩ := plus2_yes (x := T) (y := c) (by omega)
    have PB := Lib.hid pb
    have PQ := Lib.hid pq
    clear e pb pq
    by_cases x0 : x = 0
    · have ha : addSt P s m st x c = { st with z := st.z + c } := by unfold addSt; rw [if_pos x0]
      subst x0
      have HO : Hid (∀ W, Calls Tryz.prog 35 #[.int .i64 0] W fun e w' => e = .returned (.tuple #[.int .u64 0, .bool false]) ∧ W = w') := Lib.hid (fun W => of_any 0 HXI.out W)
      have hcB := h.c
      rw [ha]
      have HA := Lib.hid ha
      obtain ⟨zz, hzz⟩ : ∃ zz, st.z = zz := ⟨_, rfl⟩
      rw [hzz] at hcB
      have HZZ := Lib.hid hzz
      have zb : 0 ≤ zz ∧ zz + c ≤ 9223372036854775807 := by omega
      obtain ⟨zb0, zb1⟩ := zb
      clear h hT hx ha hb0 l1e l2e hzz
      go_enter Tryz.func15, Tryz.ntmps15
      go_wp2_with fail
      refine HT.out.mono ?_
      rintro e w2 ⟨rfl, b2⟩
      go_wp2_with fail
      refine (plus_two T c (T + c) true _ _ _ ⟨by omega, by omega⟩ ⟨by omega, by omega⟩ (two_words w2 _ _ _).1 (two_words w2 _ _ _).2 PQ.out PB.out).mono ?_
      rintro e w3 ⟨rfl, rfl⟩
      have hb := b2.alloc b2.size (.cells #[.int .u64 T, .int .u64 c] 22)
      have hz3 := hb.size
      go_wp2_with fail
      refine (HO.out _).mono ?_
      rintro e w4 ⟨rfl, rfl⟩
      have q4 := (hcB.call hb).c4
      have f4 := free8 (hcB.call hb).b 4
      have HB := Lib.hid hb
      have HCB := Lib.hid hcB
      clear hb hcB
      go_wp2_with fail
      go_ret
      have hbn := bnp_zero (z := zz + c) (bnp_call HX.out HB.out) (by omega) (by have := HZZ.out; omega)
      have hSB : S B := (HX.out.S B).2 (Or.inl rfl)
      refine ⟨S, ret_int (by rw [HBE.out, E.out]), ?_, ?_, fun k hk => Or.inl hk⟩
      · rw [HZZ.out]; exact ⟨_, _, _, _, _, _, _, hbn⟩
      · have hk := Keeps.of_below (S := S) HB.out
        refine ⟨hk.os, hk.tape, hk.output, by simpa [World.setCell] using hk.size, fun k hlt hn => ?_⟩
        rw [Below.heap_setCell _ _ _ k (fun e => hn (by have e : k = B := e; rw [e]; exact hSB))]
        exact hk.block k hlt hn
    · obtain ⟨mg1, mg2⟩ := mag_in hx x0
      have hid := pt_idx (ptx_ok h.p) mg1 mg2
      obtain ⟨mx, hmx⟩ : ∃ mx, mag x = mx := ⟨_, rfl⟩
      obtain ⟨i, hi'⟩ : ∃ i, P.idx mx = i := ⟨_, rfl⟩
      obtain ⟨tp, vp, gp, rfl, hm2, hi⟩ := pt_index h.p
      have HO := Lib.hid (fun W => of_any x hx W)
      rw [hmx] at HO mg1 mg2 hid
      rw [hi'] at hid
      have mg0 : (mx == 0) = false := by simp; omega
      have H2 := Lib.hid hm2
      have HI : Hid (∀ W, Below w.heap.size w W → Calls Tryz.prog gp #[vp, .int .u64 mx] W fun e w' => e = .returned (.tuple #[.int .i64 i, .bool true]) ∧ Below W.heap.size W w') := Lib.hid (fun W hb => by rw [← hi']; exact hi W mx (ptx_call h.p hb) mg1 mg2)
      have q0 := h.c.c0
      obtain ⟨id0, id1, _⟩ := hid
      by_cases hn : x < 0
      · have ha : addSt P s m st x c = { st with k1 := keepS s m (addP st.k1 i c), t1 := st.t1 + c } := by unfold addSt; rw [if_neg x0, if_pos hn, hmx, hi']
        have hd : decide (x < 0) = true := decide_eq_true hn
        rw [hd] at HO
        rw [ha]
        obtain ⟨ga, hma, hca⟩ := sto_add h.a
        have q2 := h.c.c2
        have H1 := Lib.hid hma
        have HCA := Lib.hid (fun W hb => hca W S1 st.k1 st.t1 i c (sto_call h.a hb) (by omega) (by unfold I64; omega) HWC.out)
        have ek : addK s m st.k1 st.t1 i c = keepS s m (addP st.k1 i c) := by unfold addK; rw [if_pos l1e]
        have et : lwSum st.t1 c = st.t1 + c := by unfold lwSum; rw [if_pos l1e]
        rw [ek, et, l1e] at HCA
        clear h hT hx ha hb0 l1e l2e hma hca ek et hm2 hi hd
        go_enter Tryz.func15, Tryz.ntmps15
        go_wp2_with fail
        refine HT.out.mono ?_
        rintro e w2 ⟨rfl, b2⟩
        go_wp2_with fail
        refine (plus_two T c (T + c) true _ _ _ ⟨by omega, by omega⟩ ⟨by omega, by omega⟩ (two_words w2 _ _ _).1 (two_words w2 _ _ _).2 PQ.out PB.out).mono ?_
        rintro e w3 ⟨rfl, rfl⟩
        have hb := b2.alloc b2.size (.cells #[.int .u64 T, .int .u64 c] 22)
        have hz3 := hb.size
        go_wp2_with fail
        refine (HO.out _).mono ?_
        rintro e w4 ⟨rfl, rfl⟩
        have q0' := cell_later hb q0
        go_wp2_with fail
        rw [H2.out.m]
        go_wp2_with fail
        rw [H2.out.e]
        show Calls _ _ _ _ _
        refine (HI.out _ hb).mono ?_
        rintro e w5 ⟨rfl, b5⟩
        have b5 := hb.trans (b5.mono hb.size)
        have q2' := cell_later b5 q2
        go_wp2_with fail
        rw [H1.out.m]
        go_wp2_with fail
        rw [H1.out.e]
        show Calls _ _ _ _ _
        refine (HCA.out _ b5).mono ?_
        rintro e w6 ⟨S', rfl, hs6, k6, hS6⟩
        have HS6 := Lib.hid hs6
        have HB5 := Lib.hid b5
        clear hs6 b5
        go_wp2_with fail
        go_ret
        have hbn := bnp_one (bnp_call HX.out HB5.out) k6 HS6.out hS6 (by omega)
        refine ⟨_, ret_int (by rw [HBE.out, E.out]), ⟨_, _, _, _, _, _, _, hbn⟩, (Keeps.of_below HB5.out).trans (keeps_more k6 fun k hk => (HX.out.S k).2 (Or.inr (Or.inl hk))) (fun j hj => Or.inl hj), fun k hk => ?_⟩
        have hsz := HB5.out.size
        rcases hk with hk | hk | hk
        · exact Or.inl ((HX.out.S k).2 (Or.inl hk))
        · rcases hS6 k hk with h | h
          · exact Or.inl ((HX.out.S k).2 (Or.inr (Or.inl h)))
          · exact Or.inr (by omega)
        · exact Or.inl ((HX.out.S k).2 (Or.inr (Or.inr hk)))
      · have ha : addSt P s m st x c = { st with k2 := keepS s m (addP st.k2 i c), t2 := st.t2 + c } := by unfold addSt; rw [if_neg x0, if_neg hn, hmx, hi']
        have hd : decide (x < 0) = false := decide_eq_false hn
        rw [hd] at HO
        rw [ha]
        obtain ⟨ga, hma, hca⟩ := sto_add h.b
        have q2 := h.c.c3
        have H1 := Lib.hid hma
        have HCA := Lib.hid (fun W hb => hca W S2 st.k2 st.t2 i c (sto_call h.b hb) (by omega) (by unfold I64; omega) HWC.out)
        have ek : addK s m st.k2 st.t2 i c = keepS s m (addP st.k2 i c) := by unfold addK; rw [if_pos l2e]
        have et : lwSum st.t2 c = st.t2 + c := by unfold lwSum; rw [if_pos l2e]
        rw [ek, et, l2e] at HCA
        clear h hT hx ha hb0 l1e l2e hma hca ek et hm2 hi hd
        go_enter Tryz.func15, Tryz.ntmps15
        go_wp2_with fail
        refine HT.out.mono ?_
        rintro e w2 ⟨rfl, b2⟩
        go_wp2_with fail
        refine (plus_two T c (T + c) true _ _ _ ⟨by omega, by omega⟩ ⟨by omega, by omega⟩ (two_words w2 _ _ _).1 (two_words w2 _ _ _).2 PQ.out PB.out).mono ?_
        rintro e w3 ⟨rfl, rfl⟩
        have hb := b2.alloc b2.size (.cells #[.int .u64 T, .int .u64 c] 22)
        have hz3 := hb.size
        go_wp2_with fail
        refine (HO.out _).mono ?_
        rintro e w4 ⟨rfl, rfl⟩
        have q0' := cell_later hb q0
        go_wp2_with fail
        rw [H2.out.m]
        go_wp2_with fail
        rw [H2.out.e]
        show Calls _ _ _ _ _
        refine (HI.out _ hb).mono ?_
        rintro e w5 ⟨rfl, b5⟩
        have b5 := hb.trans (b5.mono hb.size)
        have q2' := cell_later b5 q2
        go_wp2_with fail
        rw [H1.out.m]
        go_wp2_with fail
        rw [H1.out.e]
        show Calls _ _ _ _ _
        refine (HCA.out _ b5).mono ?_
        rintro e w6 ⟨S', rfl, hs6, k6, hS6⟩
        have HS6 := Lib.hid hs6
        have HB5 := Lib.hid b5
        clear hs6 b5
        go_wp2_with fail
        go_ret
        have hbn := bnp_two (bnp_call HX.out HB5.out) k6 HS6.out hS6 (by omega)
        refine ⟨_, ret_int (by rw [HBE.out, E.out]), ⟨_, _, _, _, _, _, _, hbn⟩, (Keeps.of_below HB5.out).trans (keeps_more k6 fun k hk => (HX.out.S k).2 (Or.inr (Or.inr hk))) (fun j hj => Or.inl hj), fun k hk => ?_⟩
        have hsz := HB5.out.size
        rcases hk with hk | hk | hk
        · exact Or.inl ((HX.out.S k).2 (Or.inl hk))
        · exact Or.inl ((HX.out.S k).2 (Or.inr (Or.inl hk)))
        · rcases hS6 k hk with h | h
          · exact Or.inl ((HX.out.S k).2 (Or.inr (Or.inr h)))
          · exact Or.inr (by omega)

set_option maxHeartbeats 400000 in
theorem badd_nil (w : World) (x c : Int) (hx : I64 x) (hc : Word c) : Calls Tryz.prog 15 #[.pointer none, .int .i64 x, .int .u64 c] w fun e w' => e = .returned (.int .i64 2) ∧ Below w.heap.size w w' := by
  go_enter Tryz.func15, Tryz.ntmps15
  go_wp2_with fail
  go_ret
  exact ⟨rfl, Below.refl _ _⟩
end Go.Proofs.YtdnmeninglfhlaaGreatDoor

/-
  Walks: package bins: New, Like, Merge.
-/
namespace Go.Proofs.YtdnmeninglfhlaaGreatDoor
set_option linter.unusedVariables false
set_option linter.unusedSimpArgs false
open Go.RowKit

set_option maxHeartbeats 400000 in
theorem lload_bad (w : World) (m : Int) (hm : I64 m) (hb : m < 1 ∨ 4096 < m) :
    Calls Tryz.prog 54 #[.int .i64 m, .slice none 0 0, .int .u64 0] w fun e w' => e = .returned (.tuple #[.pointer none, .int .i64 1]) ∧ Below w.heap.size w w' := by
  have HB := Lib.hid (low_does.bad w m hm hb)
  clear hb
  go_enter Tryz.func54, Tryz.ntmps54
  go_wp2_with fail
  refine HB.out.mono ?_
  rintro e w1 ⟨rfl, b1⟩
  go_wp2_with fail
  go_ret2
  exact ⟨rfl, b1⟩
set_option maxHeartbeats 400000 in
theorem hload_bad (w : World) (m : Int) (hm : I64 m) (hb : m < 1 ∨ 4096 < m) :
    Calls Tryz.prog 55 #[.int .i64 m, .slice none 0 0, .int .u64 0] w fun e w' => e = .returned (.tuple #[.pointer none, .int .i64 1]) ∧ Below w.heap.size w w' := by
  have HB := Lib.hid (high_does.bad w m hm hb)
  clear hb
  go_enter Tryz.func55, Tryz.ntmps55
  go_wp2_with fail
  refine HB.out.mono ?_
  rintro e w1 ⟨rfl, b1⟩
  go_wp2_with fail
  go_ret2
  exact ⟨rfl, b1⟩

set_option maxHeartbeats 1000000 in
/-- A store of a side. -/
theorem bstoreof_good (w : World) (s : Bool) (m : Int) (A : Option Addr) (cap : Nat) (L : List PairV) (l : Int) (m1 : 1 ≤ m) (m2 : m ≤ 4096) (hP : Pairs w A L) (hl : L.length ≤ 300) (hw : Word l) (hb : loadB m L l = true) :
    Calls Tryz.prog 37 #[.int .i64 (sideI s), .int .i64 m, .slice A L.length cap, .int .u64 l] w fun e w' => ∃ t v S, e = .returned (.tuple #[.iface t v, .bool true]) ∧ StoT w' t v S s m L (sumP L + l) ∧ (∀ k, S k → w.heap.size ≤ k) ∧ Below w.heap.size w w' := by
  cases s with
  | false =>
    have H := Lib.hid (low_does.load w m A cap L l m1 m2 hP hl hw hb)
    have e0 : sideI false = 0 := rfl
    rw [e0]
    obtain ⟨n, hn⟩ : ∃ n : Nat, L.length = n := ⟨_, rfl⟩
    rw [hn] at H ⊢
    clear hP hb e0 hn
    go_enter Tryz.func37, Tryz.ntmps37
    go_wp2_with fail
    refine H.out.mono ?_
    rintro e w2 ⟨B, S, rfl, hx, hS, hb⟩
    go_wp2_with fail
    go_ret2
    exact ⟨_, _, S, rfl, ⟨rfl, B, rfl, hx⟩, hS, hb⟩
  | true =>
    have H := Lib.hid (high_does.load w m A cap L l m1 m2 hP hl hw hb)
    have e0 : sideI true = 1 := rfl
    rw [e0]
    obtain ⟨n, hn⟩ : ∃ n : Nat, L.length = n := ⟨_, rfl⟩
    rw [hn] at H ⊢
    clear hP hb e0 hn
    go_enter Tryz.func37, Tryz.ntmps37
    go_wp2_with fail
    refine H.out.mono ?_
    rintro e w2 ⟨B, S, rfl, hx, hS, hb⟩
    go_wp2_with fail
    go_ret2
    exact ⟨_, _, S, rfl, ⟨rfl, B, rfl, hx⟩, hS, hb⟩
set_option maxHeartbeats 1000000 in
theorem bstoreof_unfit (w : World) (s : Bool) (m : Int) (A : Option Addr) (cap : Nat) (L : List PairV) (l : Int) (m1 : 1 ≤ m) (m2 : m ≤ 4096) (hP : Pairs w A L) (hl : L.length ≤ 300) (hw : Word l) (hb : loadB m L l = false) :
    Calls Tryz.prog 37 #[.int .i64 (sideI s), .int .i64 m, .slice A L.length cap, .int .u64 l] w fun e w' => ∃ X, e = .returned (.tuple #[X, .bool false]) ∧ Below w.heap.size w w' := by
  cases s with
  | false =>
    have H := Lib.hid (low_does.unfit w m A cap L l m1 m2 hP hl hw hb)
    have e0 : sideI false = 0 := rfl
    rw [e0]
    obtain ⟨n, hn⟩ : ∃ n : Nat, L.length = n := ⟨_, rfl⟩
    rw [hn] at H ⊢
    clear hP hb e0 hn
    go_enter Tryz.func37, Tryz.ntmps37
    go_wp2_with fail
    refine H.out.mono ?_
    rintro e w2 ⟨rfl, hb⟩
    go_wp2_with fail
    go_ret2
    exact ⟨_, rfl, hb⟩
  | true =>
    have H := Lib.hid (high_does.unfit w m A cap L l m1 m2 hP hl hw hb)
    have e0 : sideI true = 1 := rfl
    rw [e0]
    obtain ⟨n, hn⟩ : ∃ n : Nat, L.length = n := ⟨_, rfl⟩
    rw [hn] at H ⊢
    clear hP hb e0 hn
    go_enter Tryz.func37, Tryz.ntmps37
    go_wp2_with fail
    refine H.out.mono ?_
    rintro e w2 ⟨rfl, hb⟩
    go_wp2_with fail
    go_ret2
    exact ⟨_, rfl, hb⟩
set_option maxHeartbeats 1000000 in
theorem bstoreof_bad (w : World) (sd m : Int) (hs : I64 sd) (hm : I64 m) (hb : sd < 0 ∨ 1 < sd ∨ m < 1 ∨ 4096 < m) :
    Calls Tryz.prog 37 #[.int .i64 sd, .int .i64 m, .slice none 0 0, .int .u64 0] w fun e w' => ∃ X, e = .returned (.tuple #[X, .bool false]) ∧ Below w.heap.size w w' := by
  by_cases h0 : sd = 0
  · subst h0
    have H := Lib.hid (lload_bad w m hm (by omega))
    clear hb
    go_enter Tryz.func37, Tryz.ntmps37
    go_wp2_with fail
    refine H.out.mono ?_
    rintro e w2 ⟨rfl, hb⟩
    go_wp2_with fail
    go_ret2
    exact ⟨_, rfl, hb⟩
  by_cases h1 : sd = 1
  · subst h1
    have H := Lib.hid (hload_bad w m hm (by omega))
    clear hb
    go_enter Tryz.func37, Tryz.ntmps37
    go_wp2_with fail
    refine H.out.mono ?_
    rintro e w2 ⟨rfl, hb⟩
    go_wp2_with fail
    go_ret2
    exact ⟨_, rfl, hb⟩
  have e0 : (sd == 0) = false := by simp [h0]
  have e1 : (sd == 1) = false := by simp [h1]
  go_enter Tryz.func37, Tryz.ntmps37
  go_wp2_with fail
  go_ret2
  exact ⟨_, rfl, Below.refl _ _⟩
theorem bstoreof_nil (w : World) (s : Bool) (m : Int) (m1 : 1 ≤ m) (m2 : m ≤ 4096) :
    Calls Tryz.prog 37 #[.int .i64 (sideI s), .int .i64 m, .slice none 0 0, .int .u64 0] w fun e w' => ∃ t v S, e = .returned (.tuple #[.iface t v, .bool true]) ∧ StoT w' t v S s m [] 0 ∧ (∀ k, S k → w.heap.size ≤ k) ∧ Below w.heap.size w w' :=
  bstoreof_good w s m none 0 [] 0 m1 m2 ⟨fun p h => (by cases h), fun i p h => (by simp at h)⟩ (by decide) ⟨by decide, by decide⟩ (by
    unfold loadB; simp [sumP_nil]; exact ⟨rfl, by omega⟩)
theorem bstoreof_any (w : World) (sd m : Int) (hs : I64 sd) (hm : I64 m) :
    Calls Tryz.prog 37 #[.int .i64 sd, .int .i64 m, .slice none 0 0, .int .u64 0] w fun e w' => ∃ X b, e = .returned (.tuple #[X, .bool b]) ∧ Below w.heap.size w w' := by
  by_cases hb : sd < 0 ∨ 1 < sd ∨ m < 1 ∨ 4096 < m
  · exact (bstoreof_bad w sd m hs hm hb).mono fun e w' ⟨X, he, hb⟩ => ⟨X, false, he, hb⟩
  · have key : ∀ s, sideI s = sd → Calls Tryz.prog 37 #[.int .i64 sd, .int .i64 m, .slice none 0 0, .int .u64 0] w fun e w' => ∃ X b, e = .returned (.tuple #[X, .bool b]) ∧ Below w.heap.size w w' := fun s h => by
      rw [← h]; exact (bstoreof_nil w s m (by omega) (by omega)).mono fun e w' ⟨t, v, S, he, _, _, hb⟩ => ⟨_, true, he, hb⟩
    by_cases h0 : sd = 0
    · exact key false h0.symm
    · exact key true (by show 1 = sd; omega)

set_option maxRecDepth 100000 in
set_option maxHeartbeats 1000000 in
theorem bnew_any (w : World) (V : Value) (R : Nat → Prop) (P : Pt) (s : Bool) (m : Int) (hV : PtX w V R P) (m1 : 1 ≤ m) (m2 : m ≤ 4096) :
    Calls Tryz.prog 11 #[V, .int .i64 (sideI s), .int .i64 m] w fun e w' => ∃ B S, e = .returned (.tuple #[.pointer (some ⟨B, 0, none⟩), .int .i64 0]) ∧ BnX w' B S R P s m stNil ∧ (∀ k, S k → w.heap.size ≤ k) ∧ Below w.heap.size w w' := by
  have HS := Lib.hid (fun W => bstoreof_nil W s m m1 m2)
  have HV := Lib.hid hV
  obtain ⟨tp, vp, _, rfl, _⟩ := pt_index hV
  obtain ⟨sd, hsd⟩ : ∃ sd, sideI s = sd := ⟨_, rfl⟩
  rw [hsd] at HS ⊢
  have HSD := Lib.hid hsd
  have HM1 := Lib.hid m1
  have HM2 := Lib.hid m2
  clear hV hsd m1 m2
  go_enter Tryz.func11, Tryz.ntmps11
  go_wp2_with fail
  refine (HS.out _).mono ?_
  rintro e w2 ⟨t1, v1, S1, rfl, hs1, hf1, b2⟩
  have Q1 := Lib.hid hs1
  have F1 := Lib.hid hf1
  clear hs1 hf1
  go_wp2_with fail
  refine (HS.out _).mono ?_
  rintro e w3 ⟨t2, v2, S2, rfl, hs2, hf2, b3⟩
  have Q2 := Lib.hid hs2
  have F2 := Lib.hid hf2
  have HB3 := Lib.hid b3
  have HB2 := Lib.hid b2
  clear hs2 hf2 b2 b3
  go_wp2_with fail
  refine bodyPost_ret (v := .tuple #[.pointer (some ⟨w3.heap.size, 0, none⟩), .int .i64 0]) (by simp [results, Tryz.results11, go_sem]) rfl ?_
  have b2 := HB2.out
  have b3 := HB3.out
  have z2 := b2.size
  have z3 := b3.size
  have bb := b2.trans (b3.mono z2)
  obtain ⟨ob, hob⟩ : ∃ ob : Obj, ob = .cells #[.iface tp vp, .int .i64 sd, .iface t1 v1, .iface t2 v2, .int .u64 0] 87 := ⟨_, rfl⟩
  have hb4 : Below w3.heap.size w3 (w3.alloc ob) := (Below.refl _ _).alloc (Nat.le_refl _) _
  have r1 := sto_lt Q1.out
  have r2 := sto_lt Q2.out
  have rr := ptx_lt HV.out
  refine ⟨w3.heap.size, fun k => k = w3.heap.size ∨ S1 k ∨ S2 k, rfl, ⟨.iface tp vp, t1, v1, S1, t2, v2, S2, ?_⟩, ?_, ?_⟩
  · rw [← hob]
    exact { c := ⟨by rw [HSD.out, hob]; exact heap_alloc_new _ _⟩
            p := ptx_call (ptx_call HV.out bb) (hb4.mono (Nat.le_refl _))
            a := sto_call (sto_call Q1.out b3) hb4
            b := sto_call Q2.out hb4
            n1 := fun h => by have := r1 _ h; omega
            n2 := fun h => by have := r2 _ h; omega
            nr := fun h => by have := rr _ h; omega
            d := fun k h1 h2 => by have := r1 _ h1; have := F2.out _ h2; omega
            r1 := fun k h1 h2 => by have := rr _ h2; have := F1.out _ h1; omega
            r2 := fun k h1 h2 => by have := rr _ h2; have := F2.out _ h1; omega
            S := fun k => Iff.rfl
            z0 := Int.le_refl _
            all := by decide }
  · rintro k (rfl | hk | hk)
    · omega
    · exact F1.out k hk
    · have := F2.out k hk; omega
  · exact bb.alloc (by omega) _
set_option maxRecDepth 100000 in
set_option maxHeartbeats 1000000 in
theorem bnew_bad (w : World) (t : Nat) (v : Value) (sd m : Int) (hs : I64 sd) (hm : I64 m) (hb : sd < 0 ∨ 1 < sd ∨ m < 1 ∨ 4096 < m) :
    Calls Tryz.prog 11 #[.iface t v, .int .i64 sd, .int .i64 m] w fun e w' => e = .returned (.tuple #[.pointer none, .int .i64 1]) ∧ Below w.heap.size w w' := by
  have HS := Lib.hid (fun W => bstoreof_bad W sd m hs hm hb)
  clear hb hs hm
  go_enter Tryz.func11, Tryz.ntmps11
  go_wp2_with fail
  refine (HS.out _).mono ?_
  rintro e w2 ⟨X, rfl, b2⟩
  go_wp2_with fail
  refine (HS.out _).mono ?_
  rintro e w3 ⟨Y, rfl, b3⟩
  have b3 := b2.trans (b3.mono b2.size)
  go_wp2_with fail
  go_ret2
  exact ⟨rfl, b3⟩
set_option maxRecDepth 100000 in
set_option maxHeartbeats 1000000 in
theorem bnew_nop (w : World) (sd m : Int) (hs : I64 sd) (hm : I64 m) :
    Calls Tryz.prog 11 #[.nilIface, .int .i64 sd, .int .i64 m] w fun e w' => e = .returned (.tuple #[.pointer none, .int .i64 1]) ∧ Below w.heap.size w w' := by
  have HS := Lib.hid (fun W => bstoreof_any W sd m hs hm)
  clear hs hm
  go_enter Tryz.func11, Tryz.ntmps11
  go_wp2_with fail
  refine (HS.out _).mono ?_
  rintro e w2 ⟨X, b, rfl, b2⟩
  go_wp2_with fail
  refine (HS.out _).mono ?_
  rintro e w3 ⟨Y, b', rfl, b3⟩
  have b3 := b2.trans (b3.mono b2.size)
  go_wp2_with fail
  go_ret2
  exact ⟨rfl, b3⟩

theorem ret_bl {a b : Bool} (h : a = b) : Ending.returned (.bool a) = .returned (.bool b) := by rw [h]
theorem sto_mostq {w : World} {t : Nat} {v : Value} {S : Nat → Prop} {s : Bool} {m : Int} {K : List PairV} {T : Int} (h : StoT w t v S s m K T) : ∃ g, Mth "Most" t g v ∧ Calls Tryz.prog g #[v] w fun e w' => e = .returned (.int .i64 m) ∧ w = w' := by
  cases s with
  | false =>
    obtain ⟨rfl, B, rfl, _, C, S0, hb, _⟩ := h
    exact ⟨_, lmth_most _, lmost_at w B m (three_cells hb).1⟩
  | true =>
    obtain ⟨rfl, B, rfl, _, C, S0, hb, _⟩ := h
    exact ⟨_, hmth_most _, hlmost_at w B m (three_cells hb).1⟩
set_option maxHeartbeats 400000 in
theorem bstores_q (w : World) (B : Nat) (V1 V2 : Value) (h1 : w.cell? ⟨B, 2, none⟩ = some V1) (h2 : w.cell? ⟨B, 3, none⟩ = some V2) :
    Calls Tryz.prog 33 #[.pointer (some ⟨B, 0, none⟩)] w fun e w' => e = .returned (.tuple #[V1, V2]) ∧ ∃ n, w' = w.drewN n := by
  go_enter Tryz.func33, Tryz.ntmps33
  go_wp2_with fail
  go_quiet (fail)
  go_wp2_with fail
  go_ret2
  exact ⟨rfl, _, rfl⟩
set_option maxRecDepth 100000 in
set_option maxHeartbeats 400000 in
theorem bmost_q (w : World) (B : Nat) (t1 g1 : Nat) (v1 V2 : Value) (m : Int) (h1 : w.cell? ⟨B, 2, none⟩ = some (.iface t1 v1)) (h2 : w.cell? ⟨B, 3, none⟩ = some V2) (hm1 : Mth "Most" t1 g1 v1)
    (hc1 : ∀ n, Calls Tryz.prog g1 #[v1] (w.drewN n) fun e w' => e = .returned (.int .i64 m) ∧ w.drewN n = w') :
    Calls Tryz.prog 19 #[.pointer (some ⟨B, 0, none⟩)] w fun e w' => e = .returned (.int .i64 m) ∧ ∃ n, w' = w.drewN n := by
  have H1 := Lib.hid hm1
  have C1 := Lib.hid hc1
  have HS := Lib.hid (bstores_q w B _ _ h1 h2)
  clear hm1 hc1
  go_enter Tryz.func19, Tryz.ntmps19
  go_wp2_with fail
  refine HS.out.mono ?_
  rintro e w2 ⟨rfl, n, rfl⟩
  go_wp2_with fail
  rw [H1.out.m]
  go_wp2_with fail
  rw [H1.out.e]
  show Calls _ _ _ _ _
  refine (C1.out n).mono ?_
  rintro e w3 ⟨rfl, rfl⟩
  go_wp2_with fail
  go_ret
  exact ⟨rfl, n, rfl⟩
theorem bnp_mostq {w : World} {B : Nat} {S R : Nat → Prop} {P : Pt} {s : Bool} {m : Int} {st : St} {V : Value} {t1 : Nat} {v1 : Value} {S1 : Nat → Prop} {t2 : Nat} {v2 : Value} {S2 : Nat → Prop} (h : BnP w B S R P s m st V t1 v1 S1 t2 v2 S2) (n : Nat) : Calls Tryz.prog 19 #[.pointer (some ⟨B, 0, none⟩)] (w.drewN n) fun e w' => e = .returned (.int .i64 m) ∧ ∃ k, w' = (w.drewN n).drewN k := by
  have hd : ∀ j, Below w.heap.size w (w.drewN j) := fun j => below_drewN (Below.refl _ _) j
  obtain ⟨g, hm, _⟩ := sto_mostq h.a
  have key : ∀ j, Calls Tryz.prog g #[v1] (w.drewN j) fun e w' => e = .returned (.int .i64 m) ∧ w.drewN j = w' := fun j => by
    obtain ⟨g', hm', hc'⟩ := sto_mostq (sto_call h.a (hd j))
    have e : g' = g := by
      have a := hm.m 0 w
      have b := hm'.m 0 w
      rw [a] at b
      cases b; rfl
    rw [← e]; exact hc'
  have hb := bnp_call h (hd n)
  exact bmost_q (w.drewN n) B t1 g v1 _ m hb.c.c2 hb.c.c3 hm fun k => by rw [World.drewN_drewN]; exact key _

set_option maxRecDepth 100000 in
set_option maxHeartbeats 1000000 in
theorem blike_any {w : World} {B : Nat} {S R : Nat → Prop} {P : Pt} {s : Bool} {m : Int} {st : St} {V : Value} {t1 : Nat} {v1 : Value} {S1 : Nat → Prop} {t2 : Nat} {v2 : Value} {S2 : Nat → Prop} (h : BnP w B S R P s m st V t1 v1 S1 t2 v2 S2) {B' : Nat} {S' R' : Nat → Prop} {P' : Pt} {s' : Bool} {m' : Int} {st' : St} {V' : Value} {t1' : Nat} {v1' : Value} {S1' : Nat → Prop} {t2' : Nat} {v2' : Value} {S2' : Nat → Prop} (h' : BnP w B' S' R' P' s' m' st' V' t1' v1' S1' t2' v2' S2') (b : Bool) (hb : decide (s = s' ∧ m = m') = b) :
    Calls Tryz.prog 18 #[.pointer (some ⟨B, 0, none⟩), .pointer (some ⟨B', 0, none⟩)] w fun e w' => e = .returned (.bool b) ∧ Below w.heap.size w w' := by
  have c1 := h.c.c1
  have c1' := h'.c.c1
  have M1 := Lib.hid (fun n => bnp_mostq h n)
  have M2 := Lib.hid (fun n => bnp_mostq h' n)
  obtain ⟨sd, hsd⟩ : ∃ sd, sideI s = sd := ⟨_, rfl⟩
  obtain ⟨sd', hsd'⟩ : ∃ sd', sideI s' = sd' := ⟨_, rfl⟩
  rw [hsd] at c1
  rw [hsd'] at c1'
  have hss : s = s' ↔ sd = sd' := by
    rw [← hsd, ← hsd']; cases s <;> cases s' <;> simp [sideI]
  by_cases hs : sd = sd'
  · have q1 : (sd == sd') = true := by simp [hs]
    have hbm : (m == m') = b := by
      rw [← hb]
      by_cases hm : m = m'
      · rw [decide_eq_true ⟨hss.2 hs, hm⟩]; simp [hm]
      · rw [decide_eq_false (fun x => hm x.2)]; simp [hm]
    have HBM := Lib.hid hbm
    clear h h' hb hsd hsd' hss hbm
    go_enter Tryz.func18, Tryz.ntmps18
    go_wp2_with fail
    go_quiet ((go_at_call 19; first | (with_reducible exact Calls.quiet_of (M1.out _)) | exact Calls.quiet_of (M2.out _)))
    go_wp2_with fail
    go_ret
    exact ⟨ret_bl HBM.out, below_drewN (Below.refl _ _) _⟩
  · have q1 : (sd == sd') = false := by simp [hs]
    have hbf : b = false := by rw [← hb]; exact decide_eq_false (fun x => hs (hss.1 x.1))
    subst hbf
    clear h h' hb hsd hsd' hss M1 M2
    go_enter Tryz.func18, Tryz.ntmps18
    go_wp2_with fail
    go_quiet (fail)
    go_wp2_with fail
    go_ret
    exact ⟨rfl, below_drewN (Below.refl _ _) _⟩
set_option maxHeartbeats 1000000 in
theorem blike_nil (w : World) : Calls Tryz.prog 18 #[.pointer none, .pointer none] w fun e w' => e = .returned (.bool false) ∧ Below w.heap.size w w' := by
  go_enter Tryz.func18, Tryz.ntmps18
  go_wp2_with fail
  go_quiet (fail)
  go_wp2_with fail
  go_ret
  exact ⟨rfl, below_drewN (Below.refl _ _) _⟩
end Go.Proofs.YtdnmeninglfhlaaGreatDoor

/-
  Walks: package bins: Merge.
-/
namespace Go.Proofs.YtdnmeninglfhlaaGreatDoor
set_option linter.unusedVariables false
set_option linter.unusedSimpArgs false
open Go.RowKit

theorem ta_ll (x : Option Addr) (w : World) : (Instr.typeAssert (.iface 116 (.pointer x)) 77 116 true).run Tryz.prog w = .ok (.tuple #[.pointer x, .bool true]) w := by kernel_rfl
theorem ta_hl (x : Option Addr) (w : World) : (Instr.typeAssert (.iface 122 (.pointer x)) 77 116 true).run Tryz.prog w = .ok (.tuple #[.pointer none, .bool false]) w := by kernel_rfl
theorem ta_hh (x : Option Addr) (w : World) : (Instr.typeAssert (.iface 122 (.pointer x)) 77 122 true).run Tryz.prog w = .ok (.tuple #[.pointer x, .bool true]) w := by kernel_rfl
set_option maxRecDepth 100000 in
set_option maxHeartbeats 1000000 in
theorem bjoin_any {w : World} {t : Nat} {v : Value} {S : Nat → Prop} {s : Bool} {m : Int} {K : List PairV} {T : Int} (h : StoT w t v S s m K T) {t' : Nat} {v' : Value} {S' : Nat → Prop} {K' : List PairV} {T' : Int} (h' : StoT w t' v' S' s m K' T') (hd : ∀ k, S k → ¬ S' k) (l1 : K.length ≤ 300) (l2 : K'.length ≤ 300) (hs : T + T' ≤ 9223372036854775807) :
    Calls Tryz.prog 40 #[.iface t v, .iface t' v'] w fun e w' => e = .returned (.tuple #[]) ∧ ∃ S2, StoT w' t v S2 s m (keepS s m (joinP K K')) (T + T') ∧ Keeps S w w' ∧ (∀ k, S2 k → S k ∨ w.heap.size ≤ k) := by
  cases s with
  | false =>
    obtain ⟨rfl, B, rfl, hx⟩ := h
    obtain ⟨rfl, B', rfl, hx'⟩ := h'
    have H := Lib.hid (low_does.merge w B S m K T B' S' K' T' hx hx' (Or.inr hd) l1 l2 hs)
    clear hx hx'
    go_enter Tryz.func40, Tryz.ntmps40
    go_wp2_with fail
    rw [ta_ll]
    go_wp2_with fail
    rw [ta_ll]
    go_wp2_with fail
    refine H.out.mono ?_
    rintro e w2 ⟨S2, rfl, hx2, hk, hS⟩
    go_wp2_with fail
    first | exact bodyPost_ret (results_none rfl _ _ _) rfl ⟨rfl, S2, ⟨rfl, B, rfl, hx2⟩, hk, hS⟩ | exact bodyPost_end (results_none rfl _ _ _) rfl ⟨rfl, S2, ⟨rfl, B, rfl, hx2⟩, hk, hS⟩
  | true =>
    obtain ⟨rfl, B, rfl, hx⟩ := h
    obtain ⟨rfl, B', rfl, hx'⟩ := h'
    have H := Lib.hid (high_does.merge w B S m K T B' S' K' T' hx hx' (Or.inr hd) l1 l2 hs)
    clear hx hx'
    go_enter Tryz.func40, Tryz.ntmps40
    go_wp2_with fail
    rw [ta_hl]
    go_wp2_with fail
    rw [ta_hh]
    go_wp2_with fail
    rw [ta_hh]
    go_wp2_with fail
    refine H.out.mono ?_
    rintro e w2 ⟨S2, rfl, hx2, hk, hS⟩
    go_wp2_with fail
    first | exact bodyPost_ret (results_none rfl _ _ _) rfl ⟨rfl, S2, ⟨rfl, B, rfl, hx2⟩, hk, hS⟩ | exact bodyPost_end (results_none rfl _ _ _) rfl ⟨rfl, S2, ⟨rfl, B, rfl, hx2⟩, hk, hS⟩

set_option maxRecDepth 100000 in
set_option maxHeartbeats 1000000 in
theorem bmerge_other {w : World} {B : Nat} {S R : Nat → Prop} {P : Pt} {s : Bool} {m : Int} {st : St} {V : Value} {t1 : Nat} {v1 : Value} {S1 : Nat → Prop} {t2 : Nat} {v2 : Value} {S2 : Nat → Prop} (h : BnP w B S R P s m st V t1 v1 S1 t2 v2 S2) {B' : Nat} {S' R' : Nat → Prop} {P' : Pt} {s' : Bool} {m' : Int} {st' : St} {V' : Value} {t1' : Nat} {v1' : Value} {S1' : Nat → Prop} {t2' : Nat} {v2' : Value} {S2' : Nat → Prop} (h' : BnP w B' S' R' P' s' m' st' V' t1' v1' S1' t2' v2' S2') (hne : s ≠ s' ∨ m ≠ m') :
    Calls Tryz.prog 16 #[.pointer (some ⟨B, 0, none⟩), .pointer (some ⟨B', 0, none⟩)] w fun e w' => e = .returned (.int .i64 8) ∧ Below w.heap.size w w' := by
  have H := Lib.hid (blike_any h h' false (decide_eq_false (fun x => by rcases hne with a | a; exact a x.1; exact a x.2)))
  clear h h' hne
  go_enter Tryz.func16, Tryz.ntmps16
  go_wp2_with fail
  refine H.out.mono ?_
  rintro e w2 ⟨rfl, b2⟩
  go_wp2_with fail
  go_ret
  exact ⟨rfl, b2⟩
set_option maxHeartbeats 1000000 in
theorem bmerge_nil (w : World) : Calls Tryz.prog 16 #[.pointer none, .pointer none] w fun e w' => e = .returned (.int .i64 2) ∧ Below w.heap.size w w' := by
  go_enter Tryz.func16, Tryz.ntmps16
  go_wp2_with fail
  go_ret
  exact ⟨rfl, Below.refl _ _⟩

set_option maxRecDepth 100000 in
set_option maxHeartbeats 2000000 in
theorem bmerge_any {w : World} {B : Nat} {S R : Nat → Prop} {P : Pt} {s : Bool} {m : Int} {st : St} {V : Value} {t1 : Nat} {v1 : Value} {S1 : Nat → Prop} {t2 : Nat} {v2 : Value} {S2 : Nat → Prop} (h : BnP w B S R P s m st V t1 v1 S1 t2 v2 S2) {B' : Nat} {S' R' : Nat → Prop} {st' : St} {V' : Value} {t1' : Nat} {v1' : Value} {S1' : Nat → Prop} {t2' : Nat} {v2' : Value} {S2' : Nat → Prop} (h' : BnP w B' S' R' P s m st' V' t1' v1' S1' t2' v2' S2')
    (hd : ∀ k, S k → ¬ S' k ∧ ¬ R' k) (l1 : st.k1.length ≤ 200) (l2 : st.k2.length ≤ 200) (l3 : st'.k1.length ≤ 200) (l4 : st'.k2.length ≤ 200) (hs : st.all + st'.all ≤ 9223372036854775807) :
    Calls Tryz.prog 16 #[.pointer (some ⟨B, 0, none⟩), .pointer (some ⟨B', 0, none⟩)] w fun e w' => ∃ S2x, e = .returned (.int .i64 0) ∧ BnX w' B S2x R P s m (mergeSt s m st st') ∧ Keeps S w w' ∧ (∀ k, S2x k → S k ∨ w.heap.size ≤ k) := by
  have HX := Lib.hid h
  have HX' := Lib.hid h'
  have HL := Lib.hid (blike_any h h' true (decide_eq_true ⟨rfl, rfl⟩))
  have HT1 := Lib.hid (fun W hb => bnp_total (bnp_call (w' := W) h hb) (by omega) (by omega))
  have HT2 := Lib.hid (fun W hb => bnp_total (bnp_call (w' := W) h' hb) (by omega) (by omega))
  obtain ⟨y1, y2, y3, y4⟩ := bnp_t h
  obtain ⟨y1', y2', y3', y4'⟩ := bnp_t h'
  have hz := h.z0
  have hz' := h'.z0
  have ea : st.all = st.t1 + st.t2 + st.z := rfl
  have ea' : st'.all = st'.t1 + st'.t2 + st'.z := rfl
  obtain ⟨T, hT⟩ : ∃ T, st.all = T := ⟨_, rfl⟩
  obtain ⟨T', hT'⟩ : ∃ T', st'.all = T' := ⟨_, rfl⟩
  rw [hT] at HT1 hs ea
  rw [hT'] at HT2 hs ea'
  obtain ⟨pb, pq⟩ := plus2_yes (x := T) (y := T') hs
  have PB := Lib.hid pb
  have PQ := Lib.hid pq
  have HD := Lib.hid hd
  have HS0 := Lib.hid hs
  have T0 : 0 ≤ T := by omega
  have T0' : 0 ≤ T' := by omega
  have HEA := Lib.hid ea
  have HEA' := Lib.hid ea'
  clear pb pq h h' hT hT' hd ea ea'
  go_enter Tryz.func16, Tryz.ntmps16
  go_wp2_with fail
  refine HL.out.mono ?_
  rintro e w2 ⟨rfl, b2⟩
  go_wp2_with fail
  refine (HT1.out _ b2).mono ?_
  rintro e w3 ⟨rfl, b3⟩
  have b3 := b2.trans (b3.mono b2.size)
  go_wp2_with fail
  refine (HT2.out _ b3).mono ?_
  rintro e w4 ⟨rfl, b4⟩
  have b4 := b3.trans (b4.mono b3.size)
  go_wp2_with fail
  refine (plus_two T T' (T + T') true _ _ _ ⟨by omega, by omega⟩ ⟨by omega, by omega⟩ (two_words w4 _ _ _).1 (two_words w4 _ _ _).2 PQ.out PB.out).mono ?_
  rintro e w5 ⟨rfl, rfl⟩
  have b5 := b4.alloc b4.size (.cells #[.int .u64 T, .int .u64 T'] 22)
  generalize (w4.alloc (.cells #[.int .u64 T, .int .u64 T'] 22)) = w5 at *
  have HB5 := Lib.hid b5
  have h5 := bnp_call HX.out b5
  have h5' := bnp_call HX'.out b5
  have q2 := h5.c.c2
  have q2' := h5'.c.c2
  have HX5 := Lib.hid h5
  have HX5' := Lib.hid h5'
  clear b2 b3 b4 b5 h5 h5' HT1 HT2 HL PB PQ
  go_wp2_with fail
  go_still_tail 8, (by kernel_rfl)
  have b6 : Below w5.heap.size w5 w5.drew := (Below.refl _ _).drew
  have hbb := HB5.out.trans (b6.mono HB5.out.size)
  have HX6 := Lib.hid (bnp_call HX5.out b6)
  have HX6' := Lib.hid (bnp_call HX5'.out b6)
  change wpList _ _ _ _ _ w5.drew
  generalize w5.drew = w6 at *
  have HB6 := Lib.hid hbb
  clear hbb b6 HX5 HX5' HB5 q2 q2'
  have hdS : ∀ k, S1 k → ¬ S1' k := fun k h1 h2 => (HD.out k ((HX.out.S k).2 (Or.inr (Or.inl h1)))).1 ((HX'.out.S k).2 (Or.inr (Or.inl h2)))
  have HJ := Lib.hid (bjoin_any HX6.out.a HX6'.out.a hdS (by omega) (by omega) (by have := HEA.out; have := HEA'.out; omega))
  clear hdS
  go_wp2_with fail
  refine HJ.out.mono ?_
  rintro e w7 ⟨rfl, S1x, ha7, k7, hs7⟩
  have HX7 := Lib.hid (bnp_one HX6.out k7 ha7 hs7 (by have := HEA.out; have := HEA'.out; omega))
  have HX7' := Lib.hid (bnp_keep HX6'.out (w' := w7) (fun k hk => k7.block k (bnp_lt HX6'.out k hk) (fun h1 => by
    have hh := HD.out k ((HX.out.S k).2 (Or.inr (Or.inl h1)))
    rcases hk with h | h
    · exact hh.1 h
    · exact hh.2 h)))
  have q3 := HX7.out.c.c3
  have q3' := HX7'.out.c.c3
  have HK7 := Lib.hid (keeps_more k7 (S' := S) fun k hk => (HX.out.S k).2 (Or.inr (Or.inl hk)))
  have HS7 : Hid (∀ k, S1x k → S k ∨ w.heap.size ≤ k) := Lib.hid (fun k hk => by
    rcases hs7 k hk with h | h
    · exact Or.inl ((HX.out.S k).2 (Or.inr (Or.inl h)))
    · have := HB6.out.size; exact Or.inr (by omega))
  clear ha7 k7 hs7 HJ
  go_wp2_with fail
  go_still_tail 8, (by kernel_rfl)
  have b8 : Below w7.heap.size w7 w7.drew := (Below.refl _ _).drew
  have HX8 := Lib.hid (bnp_call HX7.out b8)
  have HX8' := Lib.hid (bnp_call HX7'.out b8)
  have HK8 := Lib.hid (HK7.out.trans (Keeps.of_below (S := S) b8) (fun j hj => Or.inl hj))
  change wpList _ _ _ _ _ w7.drew
  generalize w7.drew = w8 at *
  clear b8 HX7 HX7' HK7 q3 q3'
  have hdS : ∀ k, S2 k → ¬ S2' k := fun k h1 h2 => (HD.out k ((HX.out.S k).2 (Or.inr (Or.inr h1)))).1 ((HX'.out.S k).2 (Or.inr (Or.inr h2)))
  have HJ := Lib.hid (bjoin_any HX8.out.b HX8'.out.b hdS (by show st.k2.length ≤ 300; omega) (by omega) (by show st.t2 + st'.t2 ≤ _; have := HEA.out; have := HEA'.out; omega))
  clear hdS
  go_wp2_with fail
  refine HJ.out.mono ?_
  rintro e w9 ⟨rfl, S2x, ha9, k9, hs9⟩
  have HX9 := Lib.hid (bnp_two HX8.out k9 ha9 hs9 (by show st.t1 + st'.t1 + (st.t2 + st'.t2) + st.z ≤ _; have := HEA.out; have := HEA'.out; omega))
  have HX9' := Lib.hid (bnp_keep HX8'.out (w' := w9) (fun k hk => k9.block k (bnp_lt HX8'.out k hk) (fun h1 => by
    have hh := HD.out k ((HX.out.S k).2 (Or.inr (Or.inr h1)))
    rcases hk with h | h
    · exact hh.1 h
    · exact hh.2 h)))
  have HK9 := Lib.hid (HK8.out.trans (keeps_more k9 (S' := S) fun k hk => (HX.out.S k).2 (Or.inr (Or.inr hk))) (fun j hj => Or.inl hj))
  have HS9 : Hid (∀ k, S2x k → S k ∨ w.heap.size ≤ k) := Lib.hid (fun k hk => by
    rcases hs9 k hk with h | h
    · exact Or.inl ((HX.out.S k).2 (Or.inr (Or.inr h)))
    · have := HB6.out.size; have := HK8.out.size; exact Or.inr (by omega))
  have q4 : w9.cell? ⟨B, 4, none⟩ = some (.int .u64 st.z) := HX9.out.c.c4
  have q4' := HX9'.out.c.c4
  have f4 := free8 HX9.out.c.b 4
  obtain ⟨z, hz1⟩ : ∃ z, st.z = z := ⟨_, rfl⟩
  obtain ⟨z', hz2⟩ : ∃ z', st'.z = z' := ⟨_, rfl⟩
  rw [hz1] at q4 hz
  rw [hz2] at q4' hz'
  have zz : z + z' ≤ 9223372036854775807 := by have := HEA.out; have := HEA'.out; omega
  have HZ1 := Lib.hid hz1
  have HZ2 := Lib.hid hz2
  have ew : IntKind.u64.wrap (z + z') = z + z' := by rw [IntKind.wrap_u64]; omega
  clear ha9 k9 hs9 HJ hz1 hz2
  go_wp2_with fail
  go_still_tail 11, (by kernel_rfl)
  have b10 : Below w9.heap.size w9 w9.drew := (Below.refl _ _).drew
  have HX10 := Lib.hid (bnp_call HX9.out b10)
  have HK10 := Lib.hid (HK9.out.trans (Keeps.of_below (S := S) b10) (fun j hj => Or.inl hj))
  have f10 := free8 HX10.out.c.b 4
  have q10 : w9.drew.cell? ⟨B, 4, none⟩ = some (.int .u64 z) := by rw [← HZ1.out]; exact HX10.out.c.c4
  change wpList _ _ _ _ _ w9.drew
  generalize w9.drew = w10 at *
  clear b10 HX9 HX9' HK9 q4 q4' f4
  go_wp2_with fail
  go_ret
  have hbn := bnp_zero (z := z + z') HX10.out (by omega) (by show st.t1 + st'.t1 + (st.t2 + st'.t2) + (z + z') ≤ _; have := HZ1.out; have := HZ2.out; have := HEA.out; have := HEA'.out; omega)
  have hst : mergeSt s m st st' = { st with k1 := keepS s m (joinP st.k1 st'.k1), t1 := st.t1 + st'.t1, k2 := keepS s m (joinP st.k2 st'.k2), t2 := st.t2 + st'.t2, z := z + z' } := by
    unfold mergeSt; rw [HZ1.out, HZ2.out]
  have hSB : S B := (HX.out.S B).2 (Or.inl rfl)
  have hkk := (Keeps.of_below (S := S) HB6.out).trans HK10.out (fun j hj => Or.inl hj)
  refine ⟨fun k => k = B ∨ S1x k ∨ S2x k, rfl, ?_, ?_, ?_⟩
  · rw [hst]; exact ⟨_, _, _, _, _, _, _, hbn⟩
  · refine ⟨hkk.os, hkk.tape, hkk.output, by simpa [World.setCell] using hkk.size, fun k hlt hn => ?_⟩
    rw [Below.heap_setCell _ _ _ k (fun e => hn (by have e : k = B := e; rw [e]; exact hSB))]
    exact hkk.block k hlt hn
  · intro k hk
    rcases hk with hk | hk | hk
    · exact Or.inl (by rw [hk]; exact hSB)
    · exact HS7.out k hk
    · exact HS9.out k hk
end Go.Proofs.YtdnmeninglfhlaaGreatDoor

/-
  Walk: wide.Plus of a row of numbers; of three.
-/
namespace Go.Proofs.YtdnmeninglfhlaaGreatDoor
set_option linter.unusedVariables false
set_option linter.unusedSimpArgs false
open Go.RowKit

set_option maxHeartbeats 400000 in
theorem plusn_any (xs : List Int) (b off cap : Nat) (w : World) (hm : xs.length ≤ maxLen) (hw : ∀ x ∈ xs, Word x)
    (hcell : ∀ i x, xs[i]? = some x → w.cell? ⟨b, off + i, none⟩ = some (.int .u64 x)) :
    Calls Tryz.prog 39 #[.slice (some ⟨b, off, none⟩) xs.length cap] w fun e w' =>
      e = .returned (.tuple #[.int .u64 (plQ xs), .bool (plB xs)]) ∧ w = w' := by
  unfold maxLen at hm
  have hpos : ∀ x ∈ xs, 0 ≤ x := fun x hx => (hw x hx).1
  have Hpos := Lib.hid hpos
  have Hw := Lib.hid hw
  have Hcell := Lib.hid hcell
  clear hpos hw hcell
  go_enter Tryz.func39, Tryz.ntmps39
  go_wp2_with fail
  go_loop [4, 9] (fun s i => ∃ k : Nat, k ≤ xs.length ∧ i = .int .i64 k ∧ s = .int .u64 (sumI (xs.take k)) ∧ sumI (xs.take k) ≤ 9223372036854775807) (fun _ i => xs.length - (intOf i).toNat)
  case atStart => exact ⟨0, Nat.zero_le _, rfl, rfl, by simp [sumI]⟩
  case round =>
    obtain ⟨k, hk, rfl, rfl, hs⟩ := hrel
    have s0 : 0 ≤ sumI (xs.take k) := sumI_nonneg (fun x hx => Hpos.out x (List.mem_of_mem_take hx))
    by_cases hlt : k < xs.length
    · obtain ⟨x, hx⟩ : ∃ x, xs[k]? = some x := ⟨_, List.getElem?_eq_getElem hlt⟩
      have e1 := Hcell.out k x hx
      have HS := Lib.hid (sumI_take hx)
      obtain ⟨x0, x1⟩ := Hw.out x (List.mem_of_getElem? hx)
      have HM := Lib.hid (sumI_mono Hpos.out (k + 1))
      clear hx
      generalize sumI (xs.take k) = s at *
      by_cases hg : 9223372036854775807 - s < x
      · have e : plB xs = false := by
          have a := HS.out; have b := HM.out
          unfold plB; apply decide_eq_false; omega
        have e2 : plQ xs = 0 := by unfold plQ; rw [e]; rfl
        have E := Lib.hid e; have E2 := Lib.hid e2
        clear e e2
        go_wp2_with fail
        exact bodyPost_ret (v := .tuple #[.int .u64 0, .bool false]) (by simp [results, Tryz.results39, go_sem]) rfl ⟨by rw [E.out, E2.out], rfl⟩
      · go_wp2_with fail
        go_round
        case rel => exact ⟨k + 1, by omega, by go_num, by rw [HS.out], by rw [HS.out]; omega⟩
        case measure => simp [intOf]; omega
    · obtain rfl : k = xs.length := by omega
      rw [List.take_length] at *
      have e : plB xs = true := by unfold plB; exact decide_eq_true hs
      have e2 : plQ xs = sumI xs := by unfold plQ; rw [if_pos e]
      have E := Lib.hid e; have E2 := Lib.hid e2
      clear e e2
      go_wp2_with fail
      exact bodyPost_ret (v := .tuple #[.int .u64 (sumI xs), .bool true]) (by simp [results, Tryz.results39, go_sem]) rfl ⟨by rw [E.out, E2.out], rfl⟩

theorem plus_three (a b c q : Int) (ok : Bool) (g cap : Nat) (w : World) (wa : Word a) (wb : Word b) (wc : Word c) (h0 : w.cell? ⟨g, 0, none⟩ = some (.int .u64 a)) (h1 : w.cell? ⟨g, 1, none⟩ = some (.int .u64 b)) (h2 : w.cell? ⟨g, 2, none⟩ = some (.int .u64 c)) (hb : decide (a + b + c ≤ 9223372036854775807) = ok) (hq : (if ok = true then a + b + c else 0) = q) :
    Calls Tryz.prog 39 #[.slice (some ⟨g, 0, none⟩) 3 cap] w fun e w' => e = .returned (.tuple #[.int .u64 q, .bool ok]) ∧ w = w' := by
  have e : sumI [a, b, c] = a + b + c := by simp [sumI]; omega
  have e1 : plB [a, b, c] = ok := by unfold plB; rw [e]; exact hb
  have e2 : plQ [a, b, c] = q := by unfold plQ; rw [e1, e]; exact hq
  have := plusn_any [a, b, c] g 0 cap w (by show 3 ≤ maxLen; decide) (fun x hx => by
    rcases List.mem_cons.1 hx with rfl | hx
    · exact wa
    rcases List.mem_cons.1 hx with rfl | hx
    · exact wb
    rcases List.mem_cons.1 hx with rfl | hx
    · exact wc
    cases hx) (fun i x hi => by
    match i, hi with
    | 0, hi => cases hi; exact h0
    | 1, hi => cases hi; exact h1
    | 2, hi => cases hi; exact h2
    | n + 3, hi => simp at hi)
  rw [e1, e2] at this
  exact this
end Go.Proofs.YtdnmeninglfhlaaGreatDoor

/-
  Walks: package bins: Load.
-/
namespace Go.Proofs.YtdnmeninglfhlaaGreatDoor
set_option linter.unusedVariables false
set_option linter.unusedSimpArgs false
open Go.RowKit

theorem pt_repq {w : World} {V : Value} {R : Nat → Prop} {P : Pt} (h : PtX w V R P) : ∃ t v g, V = .iface t v ∧ Mth "Rep" t g v ∧ ∀ (W : World) (i : Int), PtX W V R P → I64 i → Calls Tryz.prog g #[v, .int .i64 i] W fun e w' => e = .returned (.int .u64 (P.rep i)) ∧ ∃ n, w' = W.drewN n := by
  cases P with
  | cells u v n =>
    obtain ⟨B, rfl, _⟩ := h
    refine ⟨_, _, _, rfl, tmth_rep _, fun W i ⟨B', e, h'⟩ hi => ?_⟩
    cases e
    show Calls _ _ _ _ fun e w' => e = .returned (.int .u64 (if 0 ≤ i ∧ i < n then repC u v (lowC u v i.toNat) else 0)) ∧ _
    by_cases hc : 0 ≤ i ∧ i < n
    · rw [if_pos hc]
      obtain ⟨k, rfl⟩ : ∃ k : Nat, i = k := ⟨i.toNat, by omega⟩
      rw [Int.toNat_natCast]
      refine (trep_any W B R u v n k _ h' (by omega) rfl).mono ?_
      rintro e w' ⟨rfl, rfl⟩
      exact ⟨rfl, 0, rfl⟩
    · rw [if_neg hc]
      refine (trep_out W B R u v n i h' hi (by omega)).mono ?_
      rintro e w' ⟨rfl, rfl⟩
      exact ⟨rfl, 0, rfl⟩
  | spans d L T =>
    obtain ⟨B, rfl, _⟩ := h
    refine ⟨_, _, _, rfl, smth_rep _, fun W i ⟨B', e, h', hs, _⟩ hi => ?_⟩
    cases e
    show Calls _ _ _ _ fun e w' => e = .returned (.int .u64 (if 1 ≤ i ∧ i ≤ lastS L then midS (lowI L i) (highI L i) else 0)) ∧ _
    by_cases hc : 1 ≤ i ∧ i ≤ lastS L
    · rw [if_pos hc]; exact srep_any W B d L T i hs h' hc.1 hc.2
    · rw [if_neg hc]; exact srep_out W B d L T i hs h' hi hc
theorem bnp_most {w : World} {B : Nat} {S R : Nat → Prop} {P : Pt} {s : Bool} {m : Int} {st : St} {V : Value} {t1 : Nat} {v1 : Value} {S1 : Nat → Prop} {t2 : Nat} {v2 : Value} {S2 : Nat → Prop} (h : BnP w B S R P s m st V t1 v1 S1 t2 v2 S2) : Calls Tryz.prog 19 #[.pointer (some ⟨B, 0, none⟩)] w fun e w' => e = .returned (.int .i64 m) ∧ Below w.heap.size w w' := by
  obtain ⟨g, hm, hc⟩ := sto_most h.a
  exact bmost_of w _ _ _ g _ _ m _ (has_at h.c) hm (fun W hb => hc W _ _ _ (sto_call h.a hb))
def okB (P : Pt) (p : PairV) : Bool := decide (0 ≤ p.1) && !(P.rep p.1 == 0)
theorem okb_take {P : Pt} {L : List PairV} {k : Nat} {p : PairV} (hx : L[k]? = some p) (h : (L.take k).all (okB P) = true) : (L.take (k + 1)).all (okB P) = okB P p := by
  have : L.take (k + 1) = L.take k ++ [p] := by
    obtain ⟨hk, e⟩ := List.getElem?_eq_some_iff.1 hx
    rw [List.take_succ_eq_append_getElem hk, e]
  rw [this, List.all_append, h]; simp
theorem okb_bad {P : Pt} {L : List PairV} {k : Nat} {p : PairV} (hx : L[k]? = some p) (h : okB P p = false) : L.all (okB P) = false := by
  cases hc : L.all (okB P) with
  | false => rfl
  | true => have := List.all_eq_true.1 hc p (List.mem_of_getElem? hx); rw [h] at this; cases this

set_option maxRecDepth 100000 in
set_option maxHeartbeats 2000000 in
theorem bload_any {w : World} {B : Nat} {S R : Nat → Prop} {P : Pt} {s : Bool} {m : Int} {st : St} {V : Value} {t1 : Nat} {v1 : Value} {S1 : Nat → Prop} {t2 : Nat} {v2 : Value} {S2 : Nat → Prop} (h : BnP w B S R P s m st V t1 v1 S1 t2 v2 S2) (a : Option Addr) (cap : Nat) (L : List PairV) (l : Int) (hL : Pairs w a L) (hl : L.length ≤ 200) (hw : Word l) (m1 : 1 ≤ m) (m2 : m ≤ 4096) :
    Calls Tryz.prog 41 #[.pointer (some ⟨B, 0, none⟩), .slice a L.length cap, .int .u64 l] w fun e w' =>
      ((L.all (okB P) && loadB m L l) = true ∧ ∃ t v S0, e = .returned (.tuple #[.iface t v, .bool true]) ∧ StoT w' t v S0 s m L (sumP L + l) ∧ (∀ k, S0 k → w.heap.size ≤ k) ∧ Below w.heap.size w w') ∨
      ((L.all (okB P) && loadB m L l) = false ∧ ∃ X, e = .returned (.tuple #[X, .bool false]) ∧ Below w.heap.size w w') := by
  have HX := Lib.hid h
  have HL := Lib.hid hL
  have HLL := Lib.hid hl
  have HW := Lib.hid hw
  obtain ⟨n, hn⟩ : ∃ n : Nat, L.length = n := ⟨_, rfl⟩
  have HN := Lib.hid hn
  rw [hn] at hl ⊢
  clear h hL hn hw
  go_enter Tryz.func41, Tryz.ntmps41
  go_wp2_with fail
  go_loopw [12] (fun j wr => ∃ k : Nat, k ≤ n ∧ j = .int .i64 k ∧ (L.take k).all (okB P) = true ∧ Below w.heap.size w wr) (fun j _ => n - (intOf j).toNat)
  case atStart => exact ⟨0, Nat.zero_le _, rfl, rfl, Below.refl _ _⟩
  case round =>
    obtain ⟨k, hk, rfl, hf, hb2⟩ := hrel
    have HF := Lib.hid hf
    have hbs := hb2.size
    clear hf
    by_cases hlt : k < n
    · have kk : (k : Int) < n := by omega
      obtain ⟨p, hxk⟩ : ∃ p, L[k]? = some p := ⟨L[k]'(by rw [HN.out]; exact hlt), List.getElem?_eq_getElem _⟩
      obtain ⟨xi, xc⟩ := p
      have HXK := Lib.hid hxk
      obtain ⟨b1, off, rfl, hbl, c0, c1⟩ := (HL.out.call hb2).at_ k _ hxk
      simp only at c0 c1
      have hok := HL.out.ok _ (List.mem_of_getElem? hxk)
      have HI : Hid (I64 xi) := Lib.hid hok.1
      obtain ⟨⟨o1, o2⟩, o3, o4⟩ := hok
      simp only at o1 o2 o3 o4
      have hb3 : Below w.heap.size w (wr.alloc (.cells #[.int .i64 xi, .int .u64 xc] 115)) := hb2.alloc hbs _
      have hX3 := bnp_call HX.out hb3
      have q0 := hX3.c.c0
      obtain ⟨tp, vp, gp, rfl, hm, hr⟩ := pt_repq hX3.p
      have hq := rep_bd (ptx_ok hX3.p) xi
      obtain ⟨q, hqe⟩ : ∃ q, P.rep xi = q := ⟨_, rfl⟩
      have HQE := Lib.hid hqe
      have HR := Lib.hid (fun j => hr _ xi (ptx_call (w' := (wr.alloc (.cells #[.int .i64 xi, .int .u64 xc] 115)).drewN j) hX3.p (below_drewN (Below.refl _ _) j)) HI.out)
      rw [hqe] at HR
      have v0 : (wr.alloc (.cells #[.int .i64 xi, .int .u64 xc] 115)).cell? ⟨wr.heap.size, 0, none⟩ = some (.int .i64 xi) := by go_simp
      have HM := Lib.hid hm
      have HB3 := Lib.hid hb3
      clear hxk hX3 hr hqe hm hb3
      by_cases hneg : xi < 0
      · have d1 : decide (xi < 0) = true := decide_eq_true hneg
        have hbad : okB P (xi, xc) = false := by unfold okB; simp; intro h; omega
        have HBAD := Lib.hid (okb_bad HXK.out hbad)
        go_wp2_with fail
        go_quiet (fail)
        go_wp2_with fail
        go_ret2
        exact Or.inr ⟨by rw [HBAD.out]; rfl, _, rfl, below_drewN HB3.out _⟩
      · have d1 : decide (xi < 0) = false := decide_eq_false hneg
        have hmm := HM.out.m
        have hme := HM.out.e
        by_cases hq0 : q = 0
        · have e0 : (q == 0) = true := by simp [hq0]
          have hbad : okB P (xi, xc) = false := by unfold okB; simp only [HQE.out]; simp [hq0]
          have HBAD := Lib.hid (okb_bad HXK.out hbad)
          clear hbad hq0
          go_wp2_with fail
          go_quiet ((exact Calls.quiet_of (HR.out _)))
          clear hmm hme
          go_wp2_with fail
          go_ret2
          exact Or.inr ⟨by rw [HBAD.out]; rfl, _, rfl, below_drewN HB3.out _⟩
        · have e0 : (q == 0) = false := by simp [hq0]
          have hgood : okB P (xi, xc) = true := by unfold okB; simp only [HQE.out]; simp [hq0]; omega
          have HG := Lib.hid ((okb_take HXK.out HF.out).trans hgood)
          have ew : IntKind.i64.wrap ((k : Int) + 1) = (k : Int) + 1 := by rw [IntKind.wrap_i64]; omega
          clear hgood hq0
          go_wp2_with fail
          go_quiet ((exact Calls.quiet_of (HR.out _)))
          clear hmm hme
          go_wp2_with fail
          go_roundw
          case rel => exact ⟨k + 1, by omega, by first | go_num | (simp; omega), HG.out, below_drewN HB3.out _⟩
          case measure => simp [intOf]; omega
    · obtain rfl : k = n := by omega
      have kk : ¬ (k : Int) < k := by omega
      have hall : L.all (okB P) = true := by
        have := HF.out
        rwa [← HN.out, List.take_length] at this
      have HALL := Lib.hid hall
      have hX2 := bnp_call HX.out hb2
      have q1 := hX2.c.c1
      have HMO := Lib.hid (fun W hb => bnp_most (bnp_call (w' := W) hX2 hb))
      obtain ⟨sd, hsd⟩ : ∃ sd, sideI s = sd := ⟨_, rfl⟩
      rw [hsd] at q1
      have HSD := Lib.hid hsd
      have HB2 := Lib.hid hb2
      have HPL := Lib.hid (fun W (hb : Below wr.heap.size wr W) => HL.out.call (HB2.out.trans (hb.mono HB2.out.size)))
      clear hall hX2 hb2 hsd
      have hbs := HB2.out.size
      by_cases hlo : loadB m L l = true
      · have HST : Hid (∀ W, Below wr.heap.size wr W → Calls Tryz.prog 37 #[.int .i64 sd, .int .i64 m, .slice a k cap, .int .u64 l] W fun e w' => ∃ t v S, e = .returned (.tuple #[.iface t v, .bool true]) ∧ StoT w' t v S s m L (sumP L + l) ∧ (∀ k, S k → W.heap.size ≤ k) ∧ Below W.heap.size W w') := Lib.hid (fun W hb => by
          have := bstoreof_good W s m a cap L l m1 m2 (HPL.out W hb) (by have := HLL.out; omega) HW.out hlo
          rw [HSD.out, HN.out] at this; exact this)
        have HLO := Lib.hid hlo
        clear hlo
        go_wp2_with fail
        go_region_held3 (fun w' => w'.cell? ⟨B, 1, none⟩ = some (.int .i64 sd) ∧ Below wr.heap.size wr w')
          (first | exact ⟨by go_simp, (Below.refl _ _).drew⟩ | exact ⟨cell_later hbA (And.left (by assumption)), Below.trans (And.right (by assumption)) (hbA.mono (Below.size (And.right (by assumption))))⟩ | exact ⟨cell_later hbM (And.left (by assumption)), Below.trans (And.right (by assumption)) (hbM.mono (Below.size (And.right (by assumption))))⟩ | assumption)
          ((first | (go_at_call 19; refine (HMO.out _ (And.right (by assumption))).mono ?_; rintro e wM ⟨rfl, hbM⟩) | (go_at_call 37; refine (HST.out _ (And.right (by assumption))).mono ?_; rintro e wA ⟨t, v, S0, rfl, hs0, hf0, hbA⟩)))
        all_goals
          rename_i hHeld
          obtain ⟨g0, bw⟩ := hHeld
          have HS0 := Lib.hid hs0
          have HF0 := Lib.hid hf0
          clear hs0 hf0
          go_wp2_with fail
          go_ret2
          refine Or.inl ⟨by rw [HALL.out, HLO.out]; rfl, _, _, _, rfl, HS0.out, fun k hk => ?_, HB2.out.trans (bw.mono hbs)⟩
          have h1 : wr.heap.size ≤ wM.heap.size := hbM.size
          have h2 := HF0.out k hk
          omega
      · have hlo : loadB m L l = false := by simpa using hlo
        have HST : Hid (∀ W, Below wr.heap.size wr W → Calls Tryz.prog 37 #[.int .i64 sd, .int .i64 m, .slice a k cap, .int .u64 l] W fun e w' => ∃ X, e = .returned (.tuple #[X, .bool false]) ∧ Below W.heap.size W w') := Lib.hid (fun W hb => by
          have := bstoreof_unfit W s m a cap L l m1 m2 (HPL.out W hb) (by have := HLL.out; omega) HW.out hlo
          rw [HSD.out, HN.out] at this; exact this)
        have HLO := Lib.hid hlo
        clear hlo
        go_wp2_with fail
        go_region_held3 (fun w' => w'.cell? ⟨B, 1, none⟩ = some (.int .i64 sd) ∧ Below wr.heap.size wr w')
          (first | exact ⟨by go_simp, (Below.refl _ _).drew⟩ | exact ⟨cell_later hbA (And.left (by assumption)), Below.trans (And.right (by assumption)) (hbA.mono (Below.size (And.right (by assumption))))⟩ | exact ⟨cell_later hbM (And.left (by assumption)), Below.trans (And.right (by assumption)) (hbM.mono (Below.size (And.right (by assumption))))⟩ | assumption)
          ((first | (go_at_call 19; refine (HMO.out _ (And.right (by assumption))).mono ?_; rintro e wM ⟨rfl, hbM⟩) | (go_at_call 37; refine (HST.out _ (And.right (by assumption))).mono ?_; rintro e wA ⟨X, rfl, hbA⟩)))
        all_goals
          rename_i hHeld
          obtain ⟨g0, bw⟩ := hHeld
          go_wp2_with fail
          go_ret2
          exact Or.inr ⟨by rw [HALL.out, HLO.out]; rfl, _, rfl, HB2.out.trans (bw.mono hbs)⟩

theorem three_words (w : World) (x y z : Value) (t : TypeId) : (w.alloc (.cells #[x, y, z] t)).cell? ⟨w.heap.size, 0, none⟩ = some x ∧ (w.alloc (.cells #[x, y, z] t)).cell? ⟨w.heap.size, 1, none⟩ = some y ∧ (w.alloc (.cells #[x, y, z] t)).cell? ⟨w.heap.size, 2, none⟩ = some z := ⟨by go_simp, by go_simp, by go_simp⟩
theorem fits_parts (P : Pt) (s : Bool) (m : Int) (L1 : List PairV) (l1 : Int) (L2 : List PairV) (l2 z : Int) :
    fitsSt P s m L1 l1 L2 l2 z = ((L1.all (okB P) && loadB m L1 l1) && ((L2.all (okB P) && loadB m L2 l2) && decide (sumP L1 + l1 + (sumP L2 + l2) + z ≤ 9223372036854775807))) := by
  unfold fitsSt
  have e : ∀ L : List PairV, (L.all fun p => decide (0 ≤ p.1) && !(P.rep p.1 == 0)) = L.all (okB P) := fun L => rfl
  rw [e, e]
  cases L1.all (okB P) <;> cases L2.all (okB P) <;> cases loadB m L1 l1 <;> cases loadB m L2 l2 <;> simp

set_option maxRecDepth 100000 in
set_option maxHeartbeats 2000000 in
theorem bLoad_any {w : World} {B : Nat} {S R : Nat → Prop} {P : Pt} {s : Bool} {m : Int} {st : St} {V : Value} {t1 : Nat} {v1 : Value} {S1 : Nat → Prop} {t2 : Nat} {v2 : Value} {S2 : Nat → Prop} (h : BnP w B S R P s m st V t1 v1 S1 t2 v2 S2) (a1 a2 : Option Addr) (c1 c2 : Nat) (L1 L2 : List PairV) (l1 l2 z : Int) (hL1 : Pairs w a1 L1) (hL2 : Pairs w a2 L2) (n1 : L1.length ≤ 200) (n2 : L2.length ≤ 200) (w1 : Word l1) (w2 : Word l2) (wz : Word z) (m1 : 1 ≤ m) (m2 : m ≤ 4096) :
    Calls Tryz.prog 17 #[.pointer (some ⟨B, 0, none⟩), .agg #[.slice a1 L1.length c1, .slice a2 L2.length c2], .agg #[.int .u64 l1, .int .u64 l2], .int .u64 z] w fun e w' =>
      (fitsSt P s m L1 l1 L2 l2 z = true ∧ ∃ S', e = .returned (.int .i64 0) ∧ BnX w' B S' R P s m (loadSt L1 l1 L2 l2 z) ∧ Keeps S w w' ∧ (∀ k, S' k → S k ∨ w.heap.size ≤ k)) ∨
      (fitsSt P s m L1 l1 L2 l2 z = false ∧ e = .returned (.int .i64 1) ∧ Below w.heap.size w w') := by
  have HX := Lib.hid h
  have HLA := Lib.hid hL1
  have HLB := Lib.hid hL2
  have H1 := Lib.hid (fun W (hb : Below w.heap.size w W) => bload_any (bnp_call h hb) a1 c1 L1 l1 (hL1.call hb) n1 w1 m1 m2)
  have H2 := Lib.hid (fun W (hb : Below w.heap.size w W) => bload_any (bnp_call h hb) a2 c2 L2 l2 (hL2.call hb) n2 w2 m1 m2)
  have HFP := Lib.hid (fits_parts P s m L1 l1 L2 l2 z)
  have HP1 : Hid (0 ≤ sumP L1) := Lib.hid (sumP_pos (ok_pos hL1.ok))
  have HP2 : Hid (0 ≤ sumP L2) := Lib.hid (sumP_pos (ok_pos hL2.ok))
  have HN1 := Lib.hid n1
  have HN2 := Lib.hid n2
  have HW1 := Lib.hid w1
  have HW2 := Lib.hid w2
  obtain ⟨z0, z1⟩ := wz
  obtain ⟨k1, hk1⟩ : ∃ k1 : Nat, L1.length = k1 := ⟨_, rfl⟩
  obtain ⟨k2, hk2⟩ : ∃ k2 : Nat, L2.length = k2 := ⟨_, rfl⟩
  rw [hk1] at H1 ⊢
  rw [hk2] at H2 ⊢
  clear h hL1 hL2 hk1 hk2 n1 n2 w1 w2
  have b0 : Below w.heap.size w ((w.alloc (.cells #[.slice a1 k1 c1, .slice a2 k2 c2] 46)).alloc (.cells #[.int .u64 l1, .int .u64 l2] 47)) := ((Below.refl _ _).alloc (Nat.le_refl _) _).alloc (by simp) _
  have p1 : ((w.alloc (.cells #[.slice a1 k1 c1, .slice a2 k2 c2] 46)).alloc (.cells #[.int .u64 l1, .int .u64 l2] 47)).cell? ⟨w.heap.size, 1, none⟩ = some (.slice a2 k2 c2) := by go_simp
  have p2 : ((w.alloc (.cells #[.slice a1 k1 c1, .slice a2 k2 c2] 46)).alloc (.cells #[.int .u64 l1, .int .u64 l2] 47)).cell? ⟨w.heap.size + 1, 1, none⟩ = some (.int .u64 l2) := by go_simp
  go_enter Tryz.func17, Tryz.ntmps17
  go_wp2_with fail
  generalize ((w.alloc (.cells #[.slice a1 k1 c1, .slice a2 k2 c2] 46)).alloc (.cells #[.int .u64 l1, .int .u64 l2] 47)) = wA at *
  refine (H1.out _ b0).mono ?_
  rintro e w2 (⟨f1, t1n, v1n, S1n, rfl, hs1, hf1, b2⟩ | ⟨f1, X, rfl, b2⟩)
  case inr =>
    have HF1 := Lib.hid f1
    have bb := b0.trans (b2.mono b0.size)
    clear f1
    go_wp2_with fail
    go_ret
    exact Or.inr ⟨by rw [HFP.out, HF1.out]; rfl, rfl, bb⟩
  have HF1 := Lib.hid f1
  have HS1 := Lib.hid hs1
  have HLT0 : Hid (∀ k, S1n k → k < w2.heap.size) := Lib.hid (sto_lt hs1)
  have HR1 := Lib.hid hf1
  have bb := b0.trans (b2.mono b0.size)
  have z0w := b0.size
  have p1 := cell_later b2 p1
  have p2 := cell_later b2 p2
  clear f1 hs1 hf1 b2 b0
  go_wp2_with fail
  refine (H2.out _ bb).mono ?_
  rintro e w3 (⟨f2, t2n, v2n, S2n, rfl, hs2, hf2, b3⟩ | ⟨f2, X, rfl, b3⟩)
  case inr =>
    have HF2 := Lib.hid f2
    have bb := bb.trans (b3.mono bb.size)
    clear f2
    go_wp2_with fail
    go_ret
    exact Or.inr ⟨by rw [HFP.out, HF1.out, HF2.out]; rfl, rfl, bb⟩
  have HF2 := Lib.hid f2
  have HR2 := Lib.hid hf2
  have HS1 := Lib.hid (sto_call HS1.out b3)
  have HS2 := Lib.hid hs2
  have hz2 := bb.size
  have hz3 := b3.size
  have bb := bb.trans (b3.mono bb.size)
  clear p1 p2 f2 hf2
  obtain ⟨_, u1, u2, u3, _⟩ := kept_pos (sto_kept HS1.out)
  obtain ⟨_, u4, u5, u6, _⟩ := kept_pos (sto_kept hs2)
  obtain ⟨g1, mm1, cc1⟩ := sto_total HS1.out
  obtain ⟨g2, mm2, cc2⟩ := sto_total hs2
  obtain ⟨T1, hT1⟩ : ∃ T1, sumP L1 + l1 = T1 := ⟨_, rfl⟩
  obtain ⟨T2, hT2⟩ : ∃ T2, sumP L2 + l2 = T2 := ⟨_, rfl⟩
  have M1 := Lib.hid mm1
  have M2 := Lib.hid mm2
  have C1 := Lib.hid (fun W (hb : Below w3.heap.size w3 W) => cc1 W _ _ _ (sto_call HS1.out hb) (by have := HN1.out; omega))
  have C2 := Lib.hid (fun W (hb : Below w3.heap.size w3 W) => cc2 W _ _ _ (sto_call HS2.out hb) (by have := HN2.out; omega))
  rw [hT1] at C1 u2 u3
  rw [hT2] at C2 u5 u6
  have HT1 := Lib.hid hT1
  have HT2 := Lib.hid hT2
  have v10 : 0 ≤ T1 := by omega
  have v20 : 0 ≤ T2 := by omega
  clear mm1 mm2 cc1 cc2 hT1 hT2 hs2 u1 u2 u4 u5
  go_wp2_with fail
  rw [M1.out.m]
  go_wp2_with fail
  rw [M1.out.e]
  show Calls _ _ _ _ _
  refine (C1.out _ (Below.refl _ _)).mono ?_
  rintro e w4 ⟨rfl, b4⟩
  go_wp2_with fail
  rw [M2.out.m]
  go_wp2_with fail
  rw [M2.out.e]
  show Calls _ _ _ _ _
  refine (C2.out _ b4).mono ?_
  rintro e w5 ⟨rfl, b5⟩
  have b5 := b4.trans (b5.mono b4.size)
  have b6 := b5.alloc b5.size (.cells #[.int .u64 T1, .int .u64 z, .int .u64 T2] 22)
  by_cases hsum : T1 + z + T2 ≤ 9223372036854775807
  case neg =>
    have HNO : Hid (decide (sumP L1 + l1 + (sumP L2 + l2) + z ≤ 9223372036854775807) = false) := Lib.hid (by rw [HT1.out, HT2.out]; exact decide_eq_false (by omega))
    have HPL := Lib.hid (plus_three T1 z T2 0 false w5.heap.size 3 _ ⟨by omega, by omega⟩ ⟨by omega, by omega⟩ ⟨by omega, by omega⟩ (three_words w5 _ _ _ 22).1 (three_words w5 _ _ _ 22).2.1 (three_words w5 _ _ _ 22).2.2 (decide_eq_false hsum) rfl)
    clear hsum
    go_wp2_with fail
    refine HPL.out.mono ?_
    rintro e w6 ⟨rfl, rfl⟩
    go_wp2_with fail
    go_ret
    exact Or.inr ⟨by rw [HFP.out, HF1.out, HF2.out, HNO.out]; rfl, rfl, bb.trans (b6.mono bb.size)⟩
  have HYES : Hid (decide (sumP L1 + l1 + (sumP L2 + l2) + z ≤ 9223372036854775807) = true) := Lib.hid (by rw [HT1.out, HT2.out]; exact decide_eq_true (by omega))
  have HPL := Lib.hid (plus_three T1 z T2 (T1 + z + T2) true w5.heap.size 3 _ ⟨by omega, by omega⟩ ⟨by omega, by omega⟩ ⟨by omega, by omega⟩ (three_words w5 _ _ _ 22).1 (three_words w5 _ _ _ 22).2.1 (three_words w5 _ _ _ 22).2.2 (decide_eq_true hsum) rfl)
  have HSUM := Lib.hid hsum
  clear hsum
  go_wp2_with fail
  refine HPL.out.mono ?_
  rintro e w6 ⟨rfl, rfl⟩
  generalize (w5.alloc (.cells #[.int .u64 T1, .int .u64 z, .int .u64 T2] 22)) = w6 at *
  have HB6 := Lib.hid (bb.trans (b6.mono bb.size))
  have HC6 := Lib.hid b6
  have hX6 := bnp_call HX.out HB6.out
  have q2 := hX6.c.c2
  have q3 := hX6.c.c3
  have q4 := hX6.c.c4
  have f2 := free8 hX6.c.b 2
  have f3 := free8 hX6.c.b 3
  have f4 := free8 hX6.c.b 4
  have HX6 := Lib.hid hX6
  clear hX6 b6 b5 b4 bb HPL
  go_wp2_with fail
  go_ret
  have hx := HX6.out
  have hh : ∀ k, k ≠ B → (((w6.setCell ⟨B, 2, none⟩ (.iface t1n v1n)).setCell ⟨B, 3, none⟩ (.iface t2n v2n)).setCell ⟨B, 4, none⟩ (.int .u64 z)).heap[k]? = w6.heap[k]? := fun k hk => by
    rw [Below.heap_setCell _ _ _ k hk, Below.heap_setCell _ _ _ k hk, Below.heap_setCell _ _ _ k hk]
  have hz6 := HC6.out.size
  have hBlt := lt_of_block HX.out.c.b
  have rr := ptx_lt HX.out.p
  have r2 := sto_lt HS2.out
  have hSB : S B := (HX.out.S B).2 (Or.inl rfl)
  have hkk := Keeps.of_below (S := S) HB6.out
  refine Or.inl ⟨by rw [HFP.out, HF1.out, HF2.out, HYES.out]; rfl, fun k => k = B ∨ S1n k ∨ S2n k, rfl, ⟨V, t1n, v1n, S1n, t2n, v2n, S2n, ?_⟩, ?_, ?_⟩
  · exact { c := ⟨set_cells11 (set_cells11 (set_cells11 hx.c.b 2 _) 3 _) 4 _⟩
            p := ptx_keep hx.p fun k hr => hh k (fun e => hx.nr (e ▸ hr))
            a := sto_keep (sto_call HS1.out HC6.out) fun k hr => hh k (fun e => by have := HR1.out k hr; omega)
            b := sto_keep (sto_call HS2.out HC6.out) fun k hr => hh k (fun e => by have := HR2.out k hr; omega)
            n1 := fun h => by have := HR1.out _ h; omega
            n2 := fun h => by have := HR2.out _ h; omega
            nr := hx.nr
            d := fun k h1 h2 => by have := HR2.out _ h2; have := HLT0.out _ h1; omega
            r1 := fun k h1 h2 => by have := rr _ h2; have := HR1.out _ h1; omega
            r2 := fun k h1 h2 => by have := rr _ h2; have := HR2.out _ h1; omega
            S := fun k => Iff.rfl
            z0 := z0
            all := by show sumP L1 + l1 + (sumP L2 + l2) + z ≤ _; rw [HT1.out, HT2.out]; have := HSUM.out; omega }
  · refine ⟨hkk.os, hkk.tape, hkk.output, by simpa [World.setCell] using hkk.size, fun k hlt hn => ?_⟩
    rw [hh k (fun e => hn (by rw [e]; exact hSB))]
    exact hkk.block k hlt hn
  · intro k hk
    rcases hk with hk | hk | hk
    · exact Or.inl (by rw [hk]; exact hSB)
    · have := HR1.out k hk; exact Or.inr (by omega)
    · have := HR2.out k hk; exact Or.inr (by omega)
set_option maxHeartbeats 1000000 in
theorem bLoad_nil (w : World) : Calls Tryz.prog 17 #[.pointer none, .agg #[.slice none 0 0, .slice none 0 0], .agg #[.int .u64 0, .int .u64 0], .int .u64 0] w fun e w' => e = .returned (.int .i64 2) ∧ Below w.heap.size w w' := by
  go_enter Tryz.func17, Tryz.ntmps17
  go_wp2_with fail
  go_ret
  exact ⟨rfl, by go_grown⟩
end Go.Proofs.YtdnmeninglfhlaaGreatDoor

/-
  Package bins does what the laws ask of it.
-/
namespace Go.Proofs.YtdnmeninglfhlaaGreatDoor
set_option linter.unusedVariables false
set_option linter.unusedSimpArgs false
open Go.RowKit

theorem bins_does : BinsDoes BnX where
  keep := fun w w' B S R P s m st ⟨V, t1, v1, S1, t2, v2, S2, h⟩ hk => ⟨V, t1, v1, S1, t2, v2, S2, bnp_keep h hk⟩
  lt := fun w B S R P s m st ⟨V, t1, v1, S1, t2, v2, S2, h⟩ => bnp_lt h
  ok := fun w B S R P s m st ⟨V, t1, v1, S1, t2, v2, S2, h⟩ => by
    refine ⟨ptx_ok h.p, ⟨sto_kept h.a, sto_kept h.b, h.z0, h.all⟩, fun k hk hr => ?_⟩
    rcases (h.S k).1 hk with rfl | hk | hk
    · exact h.nr hr
    · exact h.r1 k hk hr
    · exact h.r2 k hk hr
  new := fun w V R P s m hV m1 m2 => bnew_any w V R P s m hV m1 m2
  bad := fun w V R P sd m hV hs hm hb => by
    obtain ⟨t, v, _, rfl, _⟩ := pt_index hV
    exact bnew_bad w t v sd m hs hm hb
  nop := bnew_nop
  add := fun w B S R P s m st x c ⟨V, t1, v1, S1, t2, v2, S2, h⟩ l1 l2 hx hc => bnp_add h l1 l2 x c hx hc
  find := fun w B S R P s m st t ⟨V, t1, v1, S1, t2, v2, S2, h⟩ l1 l2 wt => bnp_find h l1 l2 t wt
  rank := fun w B S R P s m st x ⟨V, t1, v1, S1, t2, v2, S2, h⟩ l1 l2 hx => bnp_rank h l1 l2 x hx
  total := fun w B S R P s m st ⟨V, t1, v1, S1, t2, v2, S2, h⟩ l1 l2 => bnp_total h l1 l2
  lost := fun w B S R P s m st ⟨V, t1, v1, S1, t2, v2, S2, h⟩ => by
    obtain ⟨g1, m1, c1⟩ := sto_lost h.a
    obtain ⟨g2, m2, c2⟩ := sto_lost h.b
    exact blost_of w _ _ _ g1 g2 _ _ _ _ _ (has_at h.c) m1 m2 (fun W hb => c1 W _ _ _ (sto_call h.a hb)) (fun W hb => c2 W _ _ _ (sto_call h.b hb))
  zero := fun w B S R P s m st ⟨V, t1, v1, S1, t2, v2, S2, h⟩ => bzero_at w B st.z h.c.c4
  rows := fun w B S R P s m st ⟨V, t1, v1, S1, t2, v2, S2, h⟩ l1 l2 => by
    obtain ⟨g1, m1, c1⟩ := sto_pairs h.a
    obtain ⟨g2, m2, c2⟩ := sto_pairs h.b
    exact brows_of w _ _ _ g1 g2 _ _ _ _ _ (has_at h.c) m1 m2 (fun W hb => c1 W _ _ _ (sto_call h.a hb) (by omega)) (fun W hb => c2 W _ _ _ (sto_call h.b hb) (by omega))
  most := fun w B S R P s m st ⟨V, t1, v1, S1, t2, v2, S2, h⟩ => bnp_most h
  like := fun w B S R P s m st B' S' R' P' s' m' st' b ⟨V, t1, v1, S1, t2, v2, S2, h⟩ ⟨V', t1', v1', S1', t2', v2', S2', h'⟩ hb => blike_any h h' b hb
  merge := fun w B S R P s m st B' S' R' st' ⟨V, t1, v1, S1, t2, v2, S2, h⟩ ⟨V', t1', v1', S1', t2', v2', S2', h'⟩ hd l1 l2 l3 l4 hs => bmerge_any h h' hd l1 l2 l3 l4 hs
  other := fun w B S R P s m st B' S' R' P' s' m' st' ⟨V, t1, v1, S1, t2, v2, S2, h⟩ ⟨V', t1', v1', S1', t2', v2', S2', h'⟩ hne => bmerge_other h h' hne
  load := fun w B S R P s m st a1 a2 c1 c2 L1 L2 l1 l2 z ⟨V, t1, v1, S1, t2, v2, S2, h⟩ p1 p2 n1 n2 w1 w2 wz hf => by
    obtain ⟨_, _, _, _, m1, m2⟩ := kept_pos (sto_kept h.a)
    refine (bLoad_any h a1 a2 c1 c2 L1 L2 l1 l2 z p1 p2 n1 n2 w1 w2 wz m1 m2).mono fun e w' hh => ?_
    rcases hh with ⟨_, hh⟩ | ⟨hb, _⟩
    · exact hh
    · rw [hf] at hb; cases hb
  unfit := fun w B S R P s m st a1 a2 c1 c2 L1 L2 l1 l2 z ⟨V, t1, v1, S1, t2, v2, S2, h⟩ p1 p2 n1 n2 w1 w2 wz hf => by
    obtain ⟨_, _, _, _, m1, m2⟩ := kept_pos (sto_kept h.a)
    refine (bLoad_any h a1 a2 c1 c2 L1 L2 l1 l2 z p1 p2 n1 n2 w1 w2 wz m1 m2).mono fun e w' hh => ?_
    rcases hh with ⟨hb, _⟩ | ⟨_, hh⟩
    · rw [hf] at hb; cases hb
    · exact hh

theorem bins_nil : BinsNil where
  add := badd_nil
  find := fun w t wt => by
    refine bfind_of w _ _ _ _ _ _ 0 0 t 0 false wt (has_none w) (lmth_total none) (fun W _ => low_nil.total W) (by decide) (by decide) (by decide) (fun _ => ⟨rfl, rfl⟩) ?_ ?_ ?_
    · intro a b; omega
    · intro a b; omega
    · intro a W x hb hx
      have hw := wt
      obtain ⟨w0, w1⟩ := hw
      exact bstand_none W _ _ _ _ x false 0 (lmth_find none) (low_nil.find W x ⟨by omega, by omega⟩)
  rank := fun w x hx => brank_nil w x hx (low_nil.total w)
  total := fun w => btotal_of w _ _ _ _ _ _ _ 0 0 0 (has_none w) (lmth_total none) (lmth_total none) (fun W _ => low_nil.total W) (fun W _ => low_nil.total W) (by decide) (by decide) (by decide) (by decide)
  zero := bzero_none
  most := fun w => bmost_of w _ _ _ _ _ _ 0 _ (has_none w) (lmth_most none) (fun W _ => low_nil.most W)
  like := blike_nil
  merge := bmerge_nil
  load := bLoad_nil
end Go.Proofs.YtdnmeninglfhlaaGreatDoor

/-
  Walks: the laws' alive, empty, build and same of layer 13, from what package bins is to do.
-/
namespace Go.Proofs.YtdnmeninglfhlaaGreatDoor
set_option linter.unusedVariables false
set_option linter.unusedSimpArgs false
open Go.RowKit

theorem alive_bins : binErr stNil 1 = 0 ∧ binErr (addSt (.spans 1 4 10) false 100 stNil 100 1) 1 = 0 ∧
    (findSt (.spans 1 4 10) false (addSt (.spans 1 4 10) false 100 (addSt (.spans 1 4 10) false 100 stNil 100 1) (-100) 1) 1).getD 0 = -101 ∧
    (findSt (.spans 1 4 10) false (addSt (.spans 1 4 10) false 100 (addSt (.spans 1 4 10) false 100 stNil 100 1) (-100) 1) 1).isSome = true ∧
    (addSt (.spans 1 4 10) false 100 stNil 100 1).k1.length ≤ 500 ∧ (addSt (.spans 1 4 10) false 100 stNil 100 1).k2.length ≤ 500 ∧
    (addSt (.spans 1 4 10) false 100 (addSt (.spans 1 4 10) false 100 stNil 100 1) (-100) 1).k1.length ≤ 500 ∧ (addSt (.spans 1 4 10) false 100 (addSt (.spans 1 4 10) false 100 stNil 100 1) (-100) 1).k2.length ≤ 500 := by decide +kernel

abbrev BnT := World → Nat → (Nat → Prop) → (Nat → Prop) → Pt → Bool → Int → St → Prop

set_option maxRecDepth 100000 in
set_option maxHeartbeats 1000000 in
theorem alive13_any {Bn : BnT} (D : BinsDoes Bn) (w : World) (ht : Tens w) : Calls Tryz.prog 8 #[] w fun e w' => e = .returned (.bool true) ∧ Below w.heap.size w w' := by
  obtain ⟨a1, a2, a3, a4, a5, a6, a7, a8⟩ := alive_bins
  have hs1 : SpanP 1 4 10 := by unfold SpanP; omega
  have HN := Lib.hid (snew_good 1 4 10 hs1 w ht)
  have HD := Lib.hid D
  have hsI : sideI false = 0 := rfl
  have hf := findSt (.spans 1 4 10) false (addSt (.spans 1 4 10) false 100 (addSt (.spans 1 4 10) false 100 stNil 100 1) (-100) 1) 1
  have hbs1 : binSt (.spans 1 4 10) false 100 stNil 100 1 = addSt (.spans 1 4 10) false 100 stNil 100 1 := by unfold binSt; rw [if_pos a1]
  have hbs2 : binSt (.spans 1 4 10) false 100 (addSt (.spans 1 4 10) false 100 stNil 100 1) (-100) 1 = addSt (.spans 1 4 10) false 100 (addSt (.spans 1 4 10) false 100 stNil 100 1) (-100) 1 := by unfold binSt; rw [if_pos a2]
  obtain ⟨s1, hs1'⟩ : ∃ s1, addSt (.spans 1 4 10) false 100 stNil 100 1 = s1 := ⟨_, rfl⟩
  rw [hs1'] at a2 a3 a4 a5 a6 a7 a8 hbs1 hbs2
  obtain ⟨s2, hs2'⟩ : ∃ s2, addSt (.spans 1 4 10) false 100 s1 (-100) 1 = s2 := ⟨_, rfl⟩
  rw [hs2'] at a3 a4 a7 a8 hbs2
  have A1 := Lib.hid a1
  have A2 := Lib.hid a2
  have A3 := Lib.hid a3
  have A4 := Lib.hid a4
  have B1 := Lib.hid hbs1
  have B2 := Lib.hid hbs2
  clear hf a1 a2 a3 a4 hs1' hs2' hbs1 hbs2 ht D
  go_enter Tryz.func8, Tryz.ntmps8
  go_wp2_with fail
  refine HN.out.mono ?_
  rintro e w2 ⟨B0, rfl, hsp, _, hb2⟩
  have HPX : Hid (PtX w2 (.iface 38 (.pointer (some ⟨B0, 0, none⟩))) (fun k => k = B0) (.spans 1 4 10)) := Lib.hid ⟨B0, rfl, hsp, hs1, fun k => Iff.rfl⟩
  clear hsp
  go_wp2_with fail
  have HNW := Lib.hid (HD.out.new w2 _ _ _ false 100 HPX.out (by omega) (by omega))
  rw [hsI] at HNW
  refine HNW.out.mono ?_
  rintro e w3 ⟨B, S, rfl, hbn, hS, hb3⟩
  have HBN := Lib.hid hbn
  have b3 := hb2.trans (hb3.mono hb2.size)
  have hz2 := hb2.size
  have hz3 := b3.size
  clear hbn hb3 HNW HPX HN
  go_wp2_with fail
  refine (HD.out.add w3 B S _ _ false 100 stNil 100 1 HBN.out (by show 0 ≤ 500; omega) (by show 0 ≤ 500; omega) (by unfold I64; omega) (by unfold Word; omega)).mono ?_
  rintro e w4 ⟨S4, rfl, hbn4, hk4, hS4⟩
  rw [B1.out] at hbn4
  rw [A1.out]
  have HBN4 := Lib.hid hbn4
  have b4 : Below w.heap.size w w4 := Keeps.below b3 hk4 hz3 fun i hi => by have := hS i hi; omega
  have hz4 := b4.size
  clear hbn4 HBN
  go_wp2_with fail
  refine (HD.out.add w4 B S4 _ _ false 100 s1 (-100) 1 HBN4.out a5 a6 (by unfold I64; omega) (by unfold Word; omega)).mono ?_
  rintro e w5 ⟨S5, rfl, hbn5, hk5, hS5⟩
  rw [B2.out] at hbn5
  rw [A2.out]
  have HBN5 := Lib.hid hbn5
  have b5 : Below w.heap.size w w5 := Keeps.below b4 hk5 hz4 fun i hi => by
    rcases hS4 i hi with h | h
    · have := hS i h; omega
    · omega
  clear hbn5 HBN4
  go_wp2_with fail
  refine (HD.out.find w5 B S5 _ _ false 100 s2 1 HBN5.out a7 a8 (by unfold Word; omega)).mono ?_
  rintro e w6 ⟨rfl, hb6⟩
  rw [A3.out, A4.out]
  go_wp2_with fail
  go_ret
  exact ⟨rfl, b5.trans (hb6.mono b5.size)⟩
/-- A case of the laws, as its value. -/
def caseV (u v dg sd m : Int) (a : Option Addr) (n cap : Nat) : Value := .agg #[.int .u64 u, .int .u64 v, .int .i64 dg, .int .i64 sd, .int .i64 m, .slice a n cap]
set_option maxRecDepth 100000 in
set_option maxHeartbeats 1000000 in
theorem empty13_any {Bn : BnT} (D : BinsDoes Bn) (w : World) (u v dg m : Int) (s : Bool) (P : Pt) (a : Option Addr) (n cap : Nat) (ht : Tens w) (hP : P.ok) (hof : PtOf dg u v P) (d0 : 0 ≤ dg) (d4 : dg ≤ 4) (m1 : 1 ≤ m) (m2 : m ≤ 4096) :
    Calls Tryz.prog 28 #[.agg #[.int .u64 u, .int .u64 v, .int .i64 dg, .int .i64 (sideI s), .int .i64 m, .slice a n cap]] w fun e w' => ∃ B S R, e = .returned (.pointer (some ⟨B, 0, none⟩)) ∧ Bn w' B S R P s m stNil ∧ (∀ k, S k ∨ R k → w.heap.size ≤ k) ∧ Below w.heap.size w w' := by
  have s01 : 0 ≤ sideI s ∧ sideI s ≤ 1 := by unfold sideI; split <;> omega
  have HD := Lib.hid D
  have HNB := Lib.hid (fun W V R P' hp => D.new W V R P' s m hp m1 m2)
  obtain ⟨sd, hsd⟩ : ∃ sd, sideI s = sd := ⟨_, rfl⟩
  rw [hsd] at s01 HNB ⊢
  obtain ⟨s0, s1⟩ := s01
  clear hsd
  have BC := ((Below.refl w.heap.size w).alloc (Nat.le_refl _) (.cells #[.int .u64 u, .int .u64 v, .int .i64 dg, .int .i64 sd, .int .i64 m, .slice a n cap] 27))
  have HTN := Lib.hid (ht.call BC)
  have hsz : (w.alloc (.cells #[.int .u64 u, .int .u64 v, .int .i64 dg, .int .i64 sd, .int .i64 m, .slice a n cap] 27)).heap.size = w.heap.size + 1 := by simp
  have p0 : (w.alloc (.cells #[.int .u64 u, .int .u64 v, .int .i64 dg, .int .i64 sd, .int .i64 m, .slice a n cap] 27)).cell? ⟨w.heap.size, 0, none⟩ = some (.int .u64 u) := by go_simp
  have p1 : (w.alloc (.cells #[.int .u64 u, .int .u64 v, .int .i64 dg, .int .i64 sd, .int .i64 m, .slice a n cap] 27)).cell? ⟨w.heap.size, 1, none⟩ = some (.int .u64 v) := by go_simp
  have p2 : (w.alloc (.cells #[.int .u64 u, .int .u64 v, .int .i64 dg, .int .i64 sd, .int .i64 m, .slice a n cap] 27)).cell? ⟨w.heap.size, 2, none⟩ = some (.int .i64 dg) := by go_simp
  have p3 : (w.alloc (.cells #[.int .u64 u, .int .u64 v, .int .i64 dg, .int .i64 sd, .int .i64 m, .slice a n cap] 27)).cell? ⟨w.heap.size, 3, none⟩ = some (.int .i64 sd) := by go_simp
  have p4 : (w.alloc (.cells #[.int .u64 u, .int .u64 v, .int .i64 dg, .int .i64 sd, .int .i64 m, .slice a n cap] 27)).cell? ⟨w.heap.size, 4, none⟩ = some (.int .i64 m) := by go_simp
  clear ht D
  cases P with
  | cells x y k =>
    obtain ⟨rfl, rfl, rfl⟩ := hof
    obtain ⟨g, t, hk⟩ := hP
    have HNC := Lib.hid (fun W => cnew_good x y g W)
    have HT := Lib.hid t
    have HG := Lib.hid g
    clear t g
    go_enter Tryz.func28, Tryz.ntmps28
    go_wp2_with fail
    generalize (w.alloc (.cells #[.int .u64 x, .int .u64 y, .int .i64 0, .int .i64 sd, .int .i64 m, .slice a n cap] 27)) = wC at *
    refine (HNC.out _).mono ?_
    rintro e w2 (⟨B0, S0, n0, rfl, htab, hS0, hb2⟩ | ⟨rfl, hl, hb2⟩)
    · obtain rfl := tab_one HG.out HT.out htab.2.1
      have HPX : Hid (PtX w2 (.iface 110 (.pointer (some ⟨B0, 0, none⟩))) S0 (.cells x y k)) := Lib.hid ⟨B0, rfl, htab⟩
      have q3 := cell_later hb2 p3
      have q4 := cell_later hb2 p4
      have b2 := BC.trans (hb2.mono (by rw [hsz]; omega))
      have hz2 := hb2.size
      clear htab p0 p1 p2 p3 p4
      go_wp2_with fail
      refine (HNB.out _ _ _ _ HPX.out).mono ?_
      rintro e w3 ⟨B, S, rfl, hbn, hS, hb3⟩
      go_wp2_with fail
      go_ret
      refine ⟨B, S, S0, rfl, hbn, fun i hi => ?_, b2.trans (hb3.mono b2.size)⟩
      rcases hi with h | h
      · have := hS i h; omega
      · have := hS0 i h; omega
    · exfalso
      have := low_mono HG.out hk
      rw [HT.out.2] at this; omega
  | spans d L T =>
    have hd : d = dg := hof
    subst hd
    have hs : SpanP d L T := hP
    have d1 : 0 < d := by unfold SpanP at hs; omega
    have HS := Lib.hid hs
    clear hs hP
    go_enter Tryz.func28, Tryz.ntmps28
    go_wp2_with fail
    generalize (w.alloc (.cells #[.int .u64 u, .int .u64 v, .int .i64 d, .int .i64 sd, .int .i64 m, .slice a n cap] 27)) = wC at *
    refine (snew_good d L T HS.out wC HTN.out).mono ?_
    rintro e w2 ⟨B0, rfl, hsp, hB0, hb2⟩
    have HPX : Hid (PtX w2 (.iface 38 (.pointer (some ⟨B0, 0, none⟩))) (fun k => k = B0) (.spans d L T)) := Lib.hid ⟨B0, rfl, hsp, HS.out, fun k => Iff.rfl⟩
    have q3 := cell_later hb2 p3
    have q4 := cell_later hb2 p4
    have b2 := BC.trans (hb2.mono (by rw [hsz]; omega))
    have hz2 := hb2.size
    clear hsp p0 p1 p2 p3 p4
    go_wp2_with fail
    refine (HNB.out _ _ _ _ HPX.out).mono ?_
    rintro e w3 ⟨B, S, rfl, hbn, hS, hb3⟩
    go_wp2_with fail
    go_ret
    refine ⟨B, S, _, rfl, hbn, fun i hi => ?_, b2.trans (hb3.mono b2.size)⟩
    rcases hi with h | h
    · have := hS i h; omega
    · have h : i = B0 := h
      omega
end Go.Proofs.YtdnmeninglfhlaaGreatDoor

/-
  Walks: the laws' build of layer 13, from what package bins is to do.
-/
namespace Go.Proofs.YtdnmeninglfhlaaGreatDoor
set_option linter.unusedVariables false
set_option linter.unusedSimpArgs false
open Go.RowKit

/-- The reference's bins, all of whose blocks lie below n. -/
structure RefK (n : Nat) (w : World) (M : Nat) (P : Pt) (s : Bool) (m : Int) (A : List PairV) : Prop where
  ref : RefN w M P s m A
  stay : ∀ w', (∀ k, k < n → w'.heap[k]? = w.heap[k]?) → n ≤ w'.heap.size → RefN w' M P s m A
theorem cell_same {w w' : World} {b : Nat} (h : w'.heap[b]? = w.heap[b]?) (o : Nat) : w'.cell? ⟨b, o, none⟩ = w.cell? ⟨b, o, none⟩ := by
  unfold World.cell?; simp only [h]
theorem refk_of {n : Nat} {w : World} {M : Nat} {P : Pt} {s : Bool} {m : Int} {A : List PairV} (h : RefN w M P s m A) (hn : n = w.heap.size) : RefK n w M P s m A := by
  subst hn
  refine ⟨h, fun w' hk hs => ?_⟩
  obtain ⟨lo, re, dg, a, cap, h1, h2, h3⟩ := h.ex
  refine ⟨lo, re, dg, a, cap, ?_, ⟨h2.ok, fun i p hp => ?_⟩, (hk M h.lt).trans h3⟩
  · cases P with
    | cells u v k =>
      obtain ⟨h0, g, q, c, c', e1, e2, n1, n2, e3, e4⟩ := h1
      refine ⟨h0, g, q, c, c', e1, e2, n1, n2, fun i hi => ?_, fun i hi => ?_⟩
      · have hb := World.block_lt_of_cell? (a := ⟨g, i, none⟩) w (e3 i hi)
        rw [cell_same (hk g hb)]; exact e3 i hi
      · have hb := World.block_lt_of_cell? (a := ⟨q, i, none⟩) w (e4 i hi)
        rw [cell_same (hk q hb)]; exact e4 i hi
    | spans d L T => exact h1
  · obtain ⟨b, off, ha, hb, c0, c1⟩ := h2.at_ i p hp
    exact ⟨b, off, ha, by omega, by rw [cell_same (hk b hb)]; exact c0, by rw [cell_same (hk b hb)]; exact c1⟩
theorem RefK.keep {n : Nat} {w w' : World} {M : Nat} {P : Pt} {s : Bool} {m : Int} {A : List PairV} (h : RefK n w M P s m A) (hk : ∀ k, k < n → w'.heap[k]? = w.heap[k]?) (hn : n ≤ w'.heap.size) : RefK n w' M P s m A :=
  ⟨h.stay w' hk hn, fun w2 hk2 hs2 => h.stay w2 (fun k hkk => (hk2 k hkk).trans (hk k hkk)) hs2⟩
theorem RefK.call {n : Nat} {w w' : World} {M : Nat} {P : Pt} {s : Bool} {m : Int} {A : List PairV} (h : RefK n w M P s m A) (hb : Below w.heap.size w w') (hn : n ≤ w.heap.size) : RefK n w' M P s m A :=
  h.keep (fun k hk => hb.block k (by omega)) (by have := hb.size; omega)
theorem RefK.past {n : Nat} {w w' : World} {M : Nat} {P : Pt} {s : Bool} {m : Int} {A : List PairV} {S : Nat → Prop} (h : RefK n w M P s m A) (hk : Keeps S w w') (hS : ∀ k, S k → n ≤ k) (hn : n ≤ w.heap.size) : RefK n w' M P s m A :=
  h.keep (fun k hkk => hk.block k (by omega) fun hs => by have := hS k hs; omega) (by have := hk.size; omega)
/-- All values set, in a world that has grown. -/
theorem refk_vals {w0 w2 w : World} {M : Nat} {P : Pt} {s : Bool} {m : Int} {A : List PairV} {a : Option Addr} {cap : Nat} (h : RefN w2 M P s m []) (hv : Pairs w0 a A) (h02 : Below w0.heap.size w0 w2) (hM : w0.heap.size ≤ M) (hb : Below w2.heap.size w2 w) :
    RefK w2.heap.size (w.setCell ⟨M, 5, none⟩ (.slice a A.length cap)) M P s m A := by
  have e : ∀ (z : World), (∀ k, k < w2.heap.size → z.heap[k]? = (w2.setCell ⟨M, 5, none⟩ (.slice a A.length cap)).heap[k]?) → w2.heap.size ≤ z.heap.size → RefN z M P s m A := by
    have h1 : RefN (w2.setCell ⟨M, 5, none⟩ (.slice a A.length cap)) M P s m A := h.vals hv h02 hM
    have hs : (w2.setCell ⟨M, 5, none⟩ (.slice a A.length cap)).heap.size = w2.heap.size := by simp [World.setCell]
    exact fun z hz hs' => (refk_of h1 hs.symm).stay z hz hs'
  have hlt := h.lt
  have key : ∀ k, k < w2.heap.size → (w.setCell ⟨M, 5, none⟩ (.slice a A.length cap)).heap[k]? = (w2.setCell ⟨M, 5, none⟩ (.slice a A.length cap)).heap[k]? := by
    intro k hk
    obtain ⟨lo, re, dg, a0, cap0, _, _, h3⟩ := h.ex
    by_cases c : k = M
    · subst c
      rw [Joins.block_setCell h3, Joins.block_setCell ((hb.block k hk).trans h3)]
    · have f : ∀ x : World, (x.setCell ⟨M, 5, none⟩ (.slice a A.length cap)).heap[k]? = x.heap[k]? := fun x => Below.heap_setCell x _ _ k c
      rw [f, f]; exact hb.block k hk
  have hs : (w.setCell ⟨M, 5, none⟩ (.slice a A.length cap)).heap.size = w.heap.size := by simp [World.setCell]
  have h9 := hb.size
  exact ⟨e _ key (by rw [hs]; exact h9), fun z hz hs' => e z (fun k hk => (hz k hk).trans (key k hk)) hs'⟩
theorem stv_len {P : Pt} (hP : P.ok) (s : Bool) (m : Int) {A : List PairV} (h : FineV A) (hl : A.length ≤ 1000) : (stV P s m A).k1.length ≤ A.length ∧ (stV P s m A).k2.length ≤ A.length := by
  have a := keeps_le s m (rowV P true A)
  have b := keeps_le s m (rowV P false A)
  have c := (row_sum50 hP true h hl).len
  have d := (row_sum50 hP false h hl).len
  exact ⟨Nat.le_trans a c, Nat.le_trans b d⟩
/-- One value more. -/
theorem bin_step {P : Pt} (hP : P.ok) (s : Bool) {m : Int} (hm : 0 < m) {A : List PairV} {k : Nat} {v : PairV} (h : A[k]? = some v) (hf : FineV (A.take k)) (hk : k ≤ 900) (hv : I64 v.1 ∧ 0 < v.2 ∧ v.2 ≤ 1125899906842624) :
    FineV (A.take (k + 1)) ∧ binErr (stV P s m (A.take k)) v.2 = 0 ∧ binSt P s m (stV P s m (A.take k)) v.1 v.2 = stV P s m (A.take (k + 1)) := by
  have hl : (A.take k).length ≤ k := List.length_take_le k A
  have hft : FineV (A.take (k + 1)) := by
    rw [take_snocP h]
    exact fine_app hf fun u hu => by
      have : u = v := by simpa using hu
      rw [this]; exact hv
  have he : binErr (stV P s m (A.take k)) v.2 = 0 := by
    unfold binErr lwErr
    rw [stv_all hP s m hf (by omega)]
    have := fine_sum hf
    have : ((A.take k).length : Int) * 1125899906842624 ≤ 900 * 1125899906842624 := Int.mul_le_mul_of_nonneg_right (by omega) (by omega)
    rw [if_neg (by omega), if_neg (by omega)]
  refine ⟨hft, he, ?_⟩
  unfold binSt
  rw [if_pos he, take_snocP h, stv_snoc hP s hm hf (by omega) hv]

/-- What build tells: bins with all values, and what they must be; or that such aren't played. -/
def BuildN (Bn : BnT) (w : World) (u v dg sd m : Int) (A : List PairV) (a : Option Addr) (cap : Nat) (e : Ending) (w' : World) : Prop :=
  (∃ B S R M P s n, e = .returned (.tuple #[.pointer (some ⟨B, 0, none⟩), .pointer (some ⟨M, 0, none⟩), .bool true]) ∧ sideI s = sd ∧ P.ok ∧ PtOf dg u v P ∧ 1 ≤ m ∧ m ≤ 4096 ∧ FineV A ∧ A.length ≤ 60 ∧ Bn w' B S R P s m (stV P s m A) ∧ RefK n w' M P s m A ∧ (∀ k, S k ∨ R k → n ≤ k) ∧ w.heap.size ≤ n ∧ n ≤ w'.heap.size ∧ 0 ≤ dg ∧ dg ≤ 4 ∧ Below w.heap.size w w' ∧ Far w.heap.size w' M ∧ w'.cell? ⟨M, 5, none⟩ = some (.slice a A.length cap)) ∨
  (e = .returned (.tuple #[.pointer none, .pointer none, .bool false]) ∧ Below w.heap.size w w')

set_option maxRecDepth 100000 in
set_option maxHeartbeats 4000000 in
theorem build13_any {Bn : BnT} (D : BinsDoes Bn) (w : World) (u v dg sd m : Int) (A : List PairV) (a : Option Addr) (cap : Nat) (ht : Tens w) (wu : Word u) (wv : Word v) (wd : I64 dg) (ws : I64 sd) (wm : I64 m) (hA : Pairs w a A) (hl : A.length ≤ 140737488351232) :
    Calls Tryz.prog 20 #[.agg #[.int .u64 u, .int .u64 v, .int .i64 dg, .int .i64 sd, .int .i64 m, .slice a A.length cap]] w (BuildN Bn w u v dg sd m A a cap) := by
  have HD := Lib.hid D
  have HTN := Lib.hid ht
  have HA := Lib.hid hA
  obtain ⟨u0, u1⟩ := id wu
  obtain ⟨v0, v1⟩ := id wv
  obtain ⟨dg0, dg1⟩ := wd
  obtain ⟨sd0, sd1⟩ := ws
  obtain ⟨m0, m1⟩ := wm
  clear ht hA D
  have BC := ((Below.refl w.heap.size w).alloc (Nat.le_refl _) (.cells #[.int .u64 u, .int .u64 v, .int .i64 dg, .int .i64 sd, .int .i64 m, .slice a A.length cap] 27))
  have hsz : (w.alloc (.cells #[.int .u64 u, .int .u64 v, .int .i64 dg, .int .i64 sd, .int .i64 m, .slice a A.length cap] 27)).heap.size = w.heap.size + 1 := by simp
  by_cases q1 : 60 < A.length
  · have kk : (60 : Int) < A.length := by omega
    go_enter Tryz.func20, Tryz.ntmps20
    go_wp2_with fail
    go_ret3
    exact Or.inr ⟨rfl, BC⟩
  have kk : ¬ (60 : Int) < A.length := by omega
  by_cases q2 : 100 < v
  · go_enter Tryz.func20, Tryz.ntmps20
    go_wp2_with fail
    go_ret3
    exact Or.inr ⟨rfl, BC⟩
  by_cases q3 : dg < 0
  · go_enter Tryz.func20, Tryz.ntmps20
    go_wp2_with fail
    go_ret3
    exact Or.inr ⟨rfl, BC⟩
  by_cases q4 : 4 < dg
  · go_enter Tryz.func20, Tryz.ntmps20
    go_wp2_with fail
    go_ret3
    exact Or.inr ⟨rfl, BC⟩
  by_cases q5 : sd < 0
  · go_enter Tryz.func20, Tryz.ntmps20
    go_wp2_with fail
    go_ret3
    exact Or.inr ⟨rfl, BC⟩
  by_cases q6 : 1 < sd
  · go_enter Tryz.func20, Tryz.ntmps20
    go_wp2_with fail
    go_ret3
    exact Or.inr ⟨rfl, BC⟩
  by_cases q7 : m < 1
  · go_enter Tryz.func20, Tryz.ntmps20
    go_wp2_with fail
    go_ret3
    exact Or.inr ⟨rfl, BC⟩
  by_cases q8 : 4096 < m
  · go_enter Tryz.func20, Tryz.ntmps20
    go_wp2_with fail
    go_ret3
    exact Or.inr ⟨rfl, BC⟩
  obtain ⟨s, hs⟩ : ∃ s, sideI s = sd := by
    by_cases c : sd = 1
    · exact ⟨true, by rw [c]; rfl⟩
    · exact ⟨false, by have : sd = 0 := by omega
                       rw [this]; rfl⟩
  have HSI := Lib.hid hs
  have HNW := Lib.hid (fun W => rnew13_any u v dg s m wu wv (by omega) (by omega) (by unfold I64; omega) W)
  have HEM := Lib.hid (fun W P hW hP hof => empty13_any HD.out W u v dg m s P a A.length cap hW hP hof (by omega) (by omega) (by omega) (by omega))
  rw [hs] at HNW HEM
  clear hs
  have p0 : (w.alloc (.cells #[.int .u64 u, .int .u64 v, .int .i64 dg, .int .i64 sd, .int .i64 m, .slice a A.length cap] 27)).cell? ⟨w.heap.size, 0, none⟩ = some (.int .u64 u) := by go_simp
  have p1 : (w.alloc (.cells #[.int .u64 u, .int .u64 v, .int .i64 dg, .int .i64 sd, .int .i64 m, .slice a A.length cap] 27)).cell? ⟨w.heap.size, 1, none⟩ = some (.int .u64 v) := by go_simp
  have p2 : (w.alloc (.cells #[.int .u64 u, .int .u64 v, .int .i64 dg, .int .i64 sd, .int .i64 m, .slice a A.length cap] 27)).cell? ⟨w.heap.size, 2, none⟩ = some (.int .i64 dg) := by go_simp
  have p3 : (w.alloc (.cells #[.int .u64 u, .int .u64 v, .int .i64 dg, .int .i64 sd, .int .i64 m, .slice a A.length cap] 27)).cell? ⟨w.heap.size, 3, none⟩ = some (.int .i64 sd) := by go_simp
  have p4 : (w.alloc (.cells #[.int .u64 u, .int .u64 v, .int .i64 dg, .int .i64 sd, .int .i64 m, .slice a A.length cap] 27)).cell? ⟨w.heap.size, 4, none⟩ = some (.int .i64 m) := by go_simp
  have p5 : (w.alloc (.cells #[.int .u64 u, .int .u64 v, .int .i64 dg, .int .i64 sd, .int .i64 m, .slice a A.length cap] 27)).cell? ⟨w.heap.size, 5, none⟩ = some (.slice a A.length cap) := by go_simp
  go_enter Tryz.func20, Tryz.ntmps20
  go_wp2_with fail
  have HSZ := Lib.hid hsz
  generalize (w.alloc (.cells #[.int .u64 u, .int .u64 v, .int .i64 dg, .int .i64 sd, .int .i64 m, .slice a A.length cap] 27)) = wC at *
  clear hsz
  refine (HNW.out _).mono ?_
  rintro e w2 (⟨M, P, hP, hof, rfl, hrn, hM, hb2, hfar⟩ | ⟨hno, rfl, hb2⟩)
  · have b2 := BC.trans (hb2.mono (by rw [HSZ.out]; omega))
    have HPP := Lib.hid hP
    have HOF := Lib.hid hof
    have HRN := Lib.hid hrn
    have HFAR := Lib.hid hfar
    clear hfar
    have r0 := cell_later hb2 p0
    have r1 := cell_later hb2 p1
    have r2 := cell_later hb2 p2
    have r3 := cell_later hb2 p3
    have r4 := cell_later hb2 p4
    have r5 := cell_later hb2 p5
    have hz2 : w.heap.size < w2.heap.size := by have := hb2.size; rw [HSZ.out] at this; omega
    have hM1 : w.heap.size + 1 ≤ M := by rw [HSZ.out] at hM; exact hM
    have hMlt := hrn.lt
    clear hP hof hrn p0 p1 p2 p3 p4 p5 hb2 HNW hM
    go_wp2_with fail
    refine (HEM.out w2 P (HTN.out.call b2) HPP.out HOF.out).mono ?_
    rintro e w3 ⟨B, S, R, rfl, hbn, hSR, hb3⟩
    have HBN := Lib.hid hbn
    have HSR := Lib.hid hSR
    have t5 := cell_later hb3 r5
    have hz3 := hb3.size
    clear hbn hSR HEM r0 r1 r2 r3 r4
    go_wp2_with fail
    go_loopw [69] (fun j wr => ∃ (k : Nat) (Sk : Nat → Prop), k ≤ A.length ∧ j = .int .i64 k ∧ FineV (A.take k) ∧ Bn wr B Sk R P s m (stV P s m (A.take k)) ∧ (∀ i, Sk i ∨ R i → w2.heap.size ≤ i) ∧ Below w2.heap.size w2 wr) (fun j _ => A.length - (intOf j).toNat)
    case atStart => exact ⟨0, S, Nat.zero_le _, rfl, fun v hv => (by cases hv), by rw [List.take_zero, stv_nil]; exact HBN.out, HSR.out, hb3⟩
    case round =>
      obtain ⟨k, Sk, hk, rfl, hf, hbn, hsr, hb4⟩ := hrel
      have HBK := Lib.hid hbn
      have HSK := Lib.hid hsr
      have HFK := Lib.hid hf
      have hbs4 := hb4.size
      clear hbn hsr hf
      by_cases hlt : k < A.length
      · have kl : (k : Int) < A.length := by omega
        have hxk : A[k]? = some A[k] := List.getElem?_eq_getElem hlt
        generalize hit : A[k] = p at *
        obtain ⟨px, pc⟩ := p
        have HXK := Lib.hid hxk
        have hA2 := HA.out.call (b2.trans (hb4.mono (by omega)))
        obtain ⟨bb, off, rfl, hbl, c0, c1⟩ := hA2.at_ k _ hxk
        have hok := HA.out.ok _ (List.mem_of_getElem? hxk)
        have HOK := Lib.hid hok.1
        obtain ⟨⟨o1, o2⟩, o3, o4⟩ := hok
        simp only at c0 c1 o1 o2 o3 o4 HOK
        have HB5 := Lib.hid (hb4.alloc hbs4 (.cells #[.int .i64 px, .int .u64 pc] 62))
        have HBK5 := Lib.hid (HD.out.call HBK.out ((Below.refl wr.heap.size wr).alloc (Nat.le_refl _) (.cells #[.int .i64 px, .int .u64 pc] 62)))
        have hz5 : (wr.alloc (.cells #[.int .i64 px, .int .u64 pc] 62)).heap.size = wr.heap.size + 1 := by simp
        clear hxk hit hA2
        by_cases z0 : pc = 0
        · subst z0
          go_wp2_with fail
          go_ret3
          exact Or.inr ⟨rfl, b2.trans (HB5.out.mono (by omega))⟩
        have z1 : (pc == 0) = false := by simp [z0]
        by_cases z2 : 1125899906842624 < pc
        · go_wp2_with fail
          go_ret3
          exact Or.inr ⟨rfl, b2.trans (HB5.out.mono (by omega))⟩
        have hst := bin_step HPP.out s (show 0 < m by omega) HXK.out HFK.out (by omega) ⟨HOK.out, by show 0 < pc; omega, by show pc ≤ 1125899906842624; omega⟩
        have hsl := stv_len HPP.out s m HFK.out (by have := List.length_take_le k A; omega)
        have htl := List.length_take_le k A
        have HST := Lib.hid hst
        have HAD := Lib.hid (HD.out.add _ B Sk R P s m (stV P s m (A.take k)) px pc HBK5.out (by omega) (by omega) HOK.out (by unfold Word; omega))
        rw [hst.2.1, hst.2.2] at HAD
        clear hst hsl htl
        go_wp2_with fail
        refine HAD.out.mono ?_
        rintro e w6 ⟨S6, rfl, hbn6, hk6, hS6⟩
        have HBN6 := Lib.hid hbn6
        have b6 : Below w2.heap.size w2 w6 := Keeps.below HB5.out hk6 (by rw [hz5]; omega) fun i hi => HSK.out i (Or.inl hi)
        have hs6 : ∀ i, S6 i ∨ R i → w2.heap.size ≤ i := fun i hi => by
          rcases hi with h | h
          · rcases hS6 i h with h | h
            · exact HSK.out i (Or.inl h)
            · rw [hz5] at h; omega
          · exact HSK.out i (Or.inr h)
        have HS6 := Lib.hid hs6
        clear hbn6 hs6 hS6 hk6 HAD HBK HBK5
        go_wp2_with fail
        go_roundw
        case rel => exact ⟨k + 1, S6, by omega, by go_num, HST.out.1, HBN6.out, HS6.out, b6⟩
        case measure => simp [intOf]; omega
      · obtain rfl : k = A.length := by omega
        have kl : ¬ (A.length : Int) < A.length := by omega
        rw [List.take_length] at HBK HFK
        have t6 := cell_later hb4 r5
        have hMB := HRN.out.lt
        obtain ⟨lo, re, dgx, a0, cap0, _, _, h3⟩ := HRN.out.ex
        have h3' := (hb4.block M hMB).trans h3
        have hfz : Far w.heap.size (wr.setCell ⟨M, 5, none⟩ (.slice a A.length cap)) M := by
          refine far_block (by rw [Joins.block_setCell h3']; rfl) (fun g l c e => ?_) (fun g l c e => ?_)
          · have := HFAR.out 0 g l c (Or.inl rfl) (by rw [Joins.cell_of_block h3, e]; rfl); rw [HSZ.out] at this; omega
          · have := HFAR.out 1 g l c (Or.inr rfl) (by rw [Joins.cell_of_block h3, e]; rfl); rw [HSZ.out] at this; omega
        have hv5 : (wr.setCell ⟨M, 5, none⟩ (.slice a A.length cap)).cell? ⟨M, 5, none⟩ = some (.slice a A.length cap) := by
          have hbb : (wr.setCell ⟨M, 5, none⟩ (.slice a A.length cap)).heap[M]? = _ := Joins.block_setCell h3' _
          rw [Joins.cell_of_block hbb]; rfl
        have HFZ := Lib.hid hfz
        have HV5 := Lib.hid hv5
        clear hfz hv5
        have y5 : wr.cell? ⟨M, 5, none⟩ = some (.slice a0 ([] : List PairV).length cap0) := by rw [Joins.cell_of_block h3']; rfl
        have f5 : wr.frozen? ⟨M, 5, none⟩ = false := Joins.unfrozen_of_block h3' 5
        have HVL := Lib.hid (refk_vals (cap := cap) HRN.out HA.out b2 (by omega) hb4)
        have HBZ : Hid (Bn (wr.setCell ⟨M, 5, none⟩ (.slice a A.length cap)) B Sk R P s m (stV P s m A)) := Lib.hid (HD.out.keep _ _ B Sk R P s m _ HBK.out fun i hi => Below.heap_setCell wr _ _ i (by have := HSK.out i hi; show i ≠ M; omega))
        have hbz : Below w.heap.size w (wr.setCell ⟨M, 5, none⟩ (.slice a A.length cap)) := (b2.trans (hb4.mono (by omega))).setCell (p := ⟨M, 5, none⟩) (by show w.heap.size ≤ M; omega) _
        have hsz : (wr.setCell ⟨M, 5, none⟩ (.slice a A.length cap)).heap.size = wr.heap.size := by simp [World.setCell]
        clear h3 h3' HBK
        go_wp2_with fail
        go_ret3
        exact Or.inl ⟨B, Sk, R, M, P, s, w2.heap.size, rfl, HSI.out, HPP.out, HOF.out, by omega, by omega, HFK.out, by omega, HBZ.out, HVL.out, HSK.out, by omega, by rw [hsz]; omega, by omega, by omega, hbz, HFZ.out, HV5.out⟩
  · have b2 := BC.trans (hb2.mono (by rw [HSZ.out]; omega))
    go_wp2_with fail
    go_ret3
    exact Or.inr ⟨rfl, b2⟩
end Go.Proofs.YtdnmeninglfhlaaGreatDoor

/-
  Walks: the laws' same of layer 13; the laws BinsFinds, BinsAdds, from what package bins is to do.
-/
namespace Go.Proofs.YtdnmeninglfhlaaGreatDoor
set_option linter.unusedVariables false
set_option linter.unusedSimpArgs false
open Go.RowKit

set_option maxRecDepth 100000 in
set_option maxHeartbeats 4000000 in
theorem same13_any {Bn : BnT} (D : BinsDoes Bn) (w : World) (B M : Nat) (S R : Nat → Prop) (P : Pt) (s : Bool) (m : Int) (A : List PairV) (hB : Bn w B S R P s m (stV P s m A)) (hR : RefN w M P s m A) (hf : FineV A) (hl : A.length ≤ 300) (m1 : 1 ≤ m) (m2 : m ≤ 4096) :
    Calls Tryz.prog 21 #[.pointer (some ⟨B, 0, none⟩), .pointer (some ⟨M, 0, none⟩)] w fun e w' => e = .returned (.bool true) ∧ Below w.heap.size w w' := by
  have HD := Lib.hid D
  have HB := Lib.hid hB
  have HR := Lib.hid hR
  have HF := Lib.hid hf
  have hP := (D.ok _ _ _ _ _ _ _ _ hB).1
  have S1 := row_sum50 hP true hf (by omega)
  have S2 := row_sum50 hP false hf (by omega)
  have hsl := stv_len hP s m hf (by omega)
  have hall := stv_all hP s m hf (by omega)
  have hsum := fine_fit hf (by omega)
  have hsides := sides_all hP hf (by omega)
  have hk1 := keeps_ok (s := s) (m := m) S1.ok
  have hk2 := keeps_ok (s := s) (m := m) S2.ok
  have f1 := S1.len
  have f2 := S2.len
  have z0 : 0 ≤ zeroV A := cnt_bd (fine_pos hf)
  have n1 : 0 ≤ sumP (rowV P true A) := sumP_pos (ok_pos S1.ok)
  have n2 : 0 ≤ sumP (rowV P false A) := sumP_pos (ok_pos S2.ok)
  have g1 := keeps_sum s m (ok_pos S1.ok)
  have g2 := keeps_sum s m (ok_pos S2.ok)
  have HRW := Lib.hid (D.rows w B S R P s m (stV P s m A) hB (by omega) (by omega))
  have HLO := Lib.hid (fun W hW => D.lost W B S R P s m (stV P s m A) hW)
  have HTO := Lib.hid (fun W hW => D.total W B S R P s m (stV P s m A) hW (by omega) (by omega))
  have HZE := Lib.hid (fun W hW => D.zero W B S R P s m (stV P s m A) hW)
  rw [hall] at HTO
  have e1 : (stV P s m A).k1 = keepS s m (rowV P true A) := rfl
  have e2 : (stV P s m A).k2 = keepS s m (rowV P false A) := rfl
  have e3 : (stV P s m A).t1 = sumP (rowV P true A) := rfl
  have e4 : (stV P s m A).t2 = sumP (rowV P false A) := rfl
  have e5 : (stV P s m A).z = zeroV A := rfl
  rw [e1, e2] at HRW
  rw [e1, e2, e3, e4] at HLO
  rw [e5] at HZE
  obtain ⟨l1, hl1⟩ : ∃ l1, sumP (rowV P true A) - sumP (keepS s m (rowV P true A)) = l1 := ⟨_, rfl⟩
  obtain ⟨l2, hl2⟩ : ∃ l2, sumP (rowV P false A) - sumP (keepS s m (rowV P false A)) = l2 := ⟨_, rfl⟩
  rw [hl1, hl2] at HLO
  have HK1 := Lib.hid (fun W hW => rkept13_any W M P s m A true l1 hW hP hf (by omega) m1 m2 hl1)
  have HK2 := Lib.hid (fun W hW => rkept13_any W M P s m A false l2 hW hP hf (by omega) m1 m2 hl2)
  obtain ⟨tt, htt⟩ : ∃ tt, sumP A = tt := ⟨_, rfl⟩
  have HMT := Lib.hid (fun W hW => rtotal13_any W M P s m A tt hW (by omega) htt (by omega))
  have HR1 := Lib.hid (fun W hW => rrow13_any W M P s m A true hW hP hf (by omega))
  have HR2 := Lib.hid (fun W hW => rrow13_any W M P s m A false hW hP hf (by omega))
  have HO1 := Lib.hid S1.ok
  have HO2 := Lib.hid S2.ok
  have kl1 := keeps_le s m (rowV P true A)
  have kl2 := keeps_le s m (rowV P false A)
  rw [htt] at HTO hsum hsides
  generalize keepS s m (rowV P true A) = K1 at *
  generalize keepS s m (rowV P false A) = K2 at *
  generalize rowV P true A = R1 at *
  generalize rowV P false A = R2 at *
  generalize zeroV A = zz at *
  obtain ⟨t1, ht1⟩ : ∃ t1, sumP R1 = t1 := ⟨_, rfl⟩
  obtain ⟨t2, ht2⟩ : ∃ t2, sumP R2 = t2 := ⟨_, rfl⟩
  have HT1 := Lib.hid (fun W x cx (hW : Pairs W x R1) => rtotal_any W x cx R1 t1 hW (by omega) ht1 (by omega))
  have HT2 := Lib.hid (fun W x cx (hW : Pairs W x R2) => rtotal_any W x cx R2 t2 hW (by omega) ht2 (by omega))
  have HS1 := Lib.hid (fun W x x' cx cx' (h : Pairs W x K1) (h' : Pairs W x' K1) => same_any W x x' cx cx' K1 K1 true (by simp) h h' (by omega) (by omega))
  have HS2 := Lib.hid (fun W x x' cx cx' (h : Pairs W x K2) (h' : Pairs W x' K2) => same_any W x x' cx cx' K2 K2 true (by simp) h h' (by omega) (by omega))
  have HKO1 := Lib.hid hk1
  have HKO2 := Lib.hid hk2
  rw [ht1] at hsides n1
  rw [ht2] at hsides n2
  have hzz : zz = tt - t1 - t2 := by omega
  have hza : 0 ≤ tt := by omega
  have hzb : t1 ≤ tt := by omega
  have hzc : t1 + t2 ≤ tt := by omega
  have hll1 : (l1 == l1) = true := by simp
  have hll2 : (l2 == l2) = true := by simp
  have htte : (tt == tt) = true := by simp
  subst hzz
  obtain ⟨a1, ha1⟩ : ∃ a1 : Nat, K1.length = a1 := ⟨_, rfl⟩
  obtain ⟨a2, ha2⟩ : ∃ a2 : Nat, K2.length = a2 := ⟨_, rfl⟩
  obtain ⟨a3, ha3⟩ : ∃ a3 : Nat, R1.length = a3 := ⟨_, rfl⟩
  obtain ⟨a4, ha4⟩ : ∃ a4 : Nat, R2.length = a4 := ⟨_, rfl⟩
  rw [ha1] at HS1
  rw [ha2] at HS2
  rw [ha3] at HT1
  rw [ha4] at HT2
  have HA1 := Lib.hid ha1
  have HA2 := Lib.hid ha2
  have HA3 := Lib.hid ha3
  have HA4 := Lib.hid ha4
  clear hB hR hf D hP S1 S2 hsl hall hk1 hk2 f1 f2 z0 g1 g2 e1 e2 e3 e4 e5 hl1 hl2 htt ht1 ht2 kl1 kl2 ha1 ha2 ha3 ha4 hsides
  go_enter Tryz.func21, Tryz.ntmps21
  go_wp2_with fail
  refine HRW.out.mono ?_
  rintro e w2 ⟨v1, v2, rfl, ho1, ho2, b2⟩
  obtain ⟨x1, c1, rfl, hp1⟩ := ho1.pairs HKO1.out
  obtain ⟨x2, c2, rfl, hp2⟩ := ho2.pairs HKO2.out
  rw [HA1.out, HA2.out]
  have P1 := Lib.hid hp1
  have P2 := Lib.hid hp2
  clear hp1 hp2 ho1 ho2 HRW
  go_wp2_with fail
  refine (HLO.out _ (HD.out.call HB.out b2)).mono ?_
  rintro e w3 ⟨rfl, b3'⟩
  have b3 := b2.trans (b3'.mono b2.size)
  have P1 := Lib.hid (P1.out.call b3')
  have P2 := Lib.hid (P2.out.call b3')
  go_wp2_with fail
  refine (HK1.out _ (HR.out.call b3)).mono ?_
  rintro e w4 ⟨v3, rfl, ho3, b4'⟩
  obtain ⟨x3, c3, rfl, hp3⟩ := ho3.pairs HKO1.out
  rw [HA1.out]
  have P3 := Lib.hid hp3
  have P1 := Lib.hid (P1.out.call b4')
  have P2 := Lib.hid (P2.out.call b4')
  have b4 := b3.trans (b4'.mono b3.size)
  clear hp3 ho3
  go_wp2_with fail
  refine (HK2.out _ (HR.out.call b4)).mono ?_
  rintro e w5 ⟨v4, rfl, ho4, b5'⟩
  obtain ⟨x4, c4, rfl, hp4⟩ := ho4.pairs HKO2.out
  rw [HA2.out]
  have P4 := Lib.hid hp4
  have P1 := Lib.hid (P1.out.call b5')
  have P2 := Lib.hid (P2.out.call b5')
  have P3 := Lib.hid (P3.out.call b5')
  have b5 := b4.trans (b5'.mono b4.size)
  clear hp4 ho4 b2 b3 b3' b4' b5'
  go_wp2_with fail
  refine (HS1.out _ _ _ _ _ P1.out P3.out).mono ?_
  rintro e w6 ⟨rfl, b6'⟩
  have b6 := b5.trans (b6'.mono b5.size)
  have P2 := Lib.hid (P2.out.call b6')
  have P4 := Lib.hid (P4.out.call b6')
  go_wp2_with fail
  refine (HS2.out _ _ _ _ _ P2.out P4.out).mono ?_
  rintro e w7 ⟨rfl, b7'⟩
  have b7 := b6.trans (b7'.mono b6.size)
  clear b4 b5 b6 b6' b7' P1 P2 P3 P4
  go_wp2_with fail
  refine (HTO.out _ (HD.out.call HB.out b7)).mono ?_
  rintro e w8 ⟨rfl, b8'⟩
  have b8 := b7.trans (b8'.mono b7.size)
  go_wp2_with fail
  refine (HMT.out _ (HR.out.call b8)).mono ?_
  rintro e w9 ⟨rfl, b9'⟩
  have b9 := b8.trans (b9'.mono b8.size)
  clear b7 b8 b8' b9'
  go_wp2_with fail
  refine (HZE.out _ (HD.out.call HB.out b9)).mono ?_
  rintro e w10 ⟨rfl, b10'⟩
  have b10 := b9.trans (b10'.mono b9.size)
  go_wp2_with fail
  refine (HMT.out _ (HR.out.call b10)).mono ?_
  rintro e w11 ⟨rfl, b11'⟩
  have b11 := b10.trans (b11'.mono b10.size)
  clear b9 b10 b10' b11'
  go_wp2_with fail
  refine (HR1.out _ (HR.out.call b11)).mono ?_
  rintro e w12 ⟨v5, rfl, ho5, b12'⟩
  obtain ⟨x5, c5, rfl, hp5⟩ := ho5.pairs HO1.out
  rw [HA3.out]
  have P5 := Lib.hid hp5
  have b12 := b11.trans (b12'.mono b11.size)
  clear hp5 ho5 b11 b12'
  go_wp2_with fail
  refine (HT1.out _ _ _ P5.out).mono ?_
  rintro e w13 ⟨rfl, b13'⟩
  have b13 := b12.trans (b13'.mono b12.size)
  clear b12 b13'
  go_wp2_with fail
  refine (HR2.out _ (HR.out.call b13)).mono ?_
  rintro e w14 ⟨v6, rfl, ho6, b14'⟩
  obtain ⟨x6, c6, rfl, hp6⟩ := ho6.pairs HO2.out
  rw [HA4.out]
  have P6 := Lib.hid hp6
  have b14 := b13.trans (b14'.mono b13.size)
  clear hp6 ho6 b13 b14'
  go_wp2_with fail
  refine (HT2.out _ _ _ P6.out).mono ?_
  rintro e w15 ⟨rfl, b15'⟩
  have b15 := b14.trans (b15'.mono b14.size)
  clear b14 b15'
  go_wp2_with fail
  go_ret
  exact ⟨rfl, b15⟩
end Go.Proofs.YtdnmeninglfhlaaGreatDoor

/-
  Walks: the laws BinsFinds, BinsRanks, from what package bins is to do.
-/
namespace Go.Proofs.YtdnmeninglfhlaaGreatDoor
set_option linter.unusedVariables false
set_option linter.unusedSimpArgs false
open Go.RowKit

/-- The six cells of a case. -/
structure CaseC (w : World) (C : Nat) (u v dg sd m : Int) (a : Option Addr) (n cap : Nat) : Prop where
  c0 : w.cell? ⟨C, 0, none⟩ = some (.int .u64 u)
  c1 : w.cell? ⟨C, 1, none⟩ = some (.int .u64 v)
  c2 : w.cell? ⟨C, 2, none⟩ = some (.int .i64 dg)
  c3 : w.cell? ⟨C, 3, none⟩ = some (.int .i64 sd)
  c4 : w.cell? ⟨C, 4, none⟩ = some (.int .i64 m)
  c5 : w.cell? ⟨C, 5, none⟩ = some (.slice a n cap)
theorem CaseC.call {w w' : World} {C : Nat} {u v dg sd m : Int} {a : Option Addr} {n cap : Nat} (h : CaseC w C u v dg sd m a n cap) (hb : Below w.heap.size w w') : CaseC w' C u v dg sd m a n cap :=
  ⟨cell_later hb h.c0, cell_later hb h.c1, cell_later hb h.c2, cell_later hb h.c3, cell_later hb h.c4, cell_later hb h.c5⟩
theorem case_new (w : World) (u v dg sd m : Int) (a : Option Addr) (n cap : Nat) (t : TypeId) : CaseC (w.alloc (.cells #[.int .u64 u, .int .u64 v, .int .i64 dg, .int .i64 sd, .int .i64 m, .slice a n cap] t)) w.heap.size u v dg sd m a n cap :=
  ⟨by go_simp, by go_simp, by go_simp, by go_simp, by go_simp, by go_simp⟩

set_option maxRecDepth 100000 in
set_option maxHeartbeats 4000000 in
theorem bins_finds_walk {Bn : BnT} (D : BinsDoes Bn) (u v dg sd m : Int) (A : List PairV) (a : Option Addr) (cap : Nat) (t : Int) (wu : Word u) (wv : Word v) (wd : I64 dg) (ws : I64 sd) (wm : I64 m) (hl : A.length ≤ 140737488351232) (wt : Word t) (w : World) (hA : Pairs w a A) (ht : Tens w) :
    Calls Tryz.prog 4 #[.agg #[.int .u64 u, .int .u64 v, .int .i64 dg, .int .i64 sd, .int .i64 m, .slice a A.length cap], .int .u64 t] w fun e w' => e = .returned (.bool true) ∧ Below w.heap.size w w' := by
  have HD := Lib.hid D
  have BC := ((Below.refl w.heap.size w).alloc (Nat.le_refl _) (.cells #[.int .u64 u, .int .u64 v, .int .i64 dg, .int .i64 sd, .int .i64 m, .slice a A.length cap] 27))
  have hcs := case_new w u v dg sd m a A.length cap 27
  have HTN := Lib.hid (ht.call BC)
  have HA := Lib.hid hA
  have HBD := Lib.hid (fun W hW hp => build13_any D W u v dg sd m A a cap hW wu wv wd ws wm hp hl)
  have hsz : (w.alloc (.cells #[.int .u64 u, .int .u64 v, .int .i64 dg, .int .i64 sd, .int .i64 m, .slice a A.length cap] 27)).heap.size = w.heap.size + 1 := by simp
  obtain ⟨ln, hln⟩ : ∃ ln : Nat, A.length = ln := ⟨_, rfl⟩
  rw [hln] at hcs HBD BC hsz HTN ⊢
  clear ht hA hl D hln
  go_enter Tryz.func4, Tryz.ntmps4
  go_wp2_with fail
  generalize (w.alloc (.cells #[.int .u64 u, .int .u64 v, .int .i64 dg, .int .i64 sd, .int .i64 m, .slice a ln cap] 27)) = wC at *
  refine (alive13_any HD.out wC HTN.out).mono ?_
  rintro e w2 ⟨rfl, hb2⟩
  obtain ⟨p0, p1, p2, p3, p4, p5⟩ := hcs.call hb2
  have b2 := BC.trans (hb2.mono (by omega))
  have HT2 := Lib.hid (HTN.out.call hb2)
  clear hcs
  go_wp2_with fail
  refine (HBD.out w2 HT2.out (HA.out.call b2)).mono ?_
  rintro e w3 (⟨B, S, R, M, P, s, n, rfl, hsi, hP, hof, m1, m2, hf, hl, hbn, hrk, hsr, hn1, hn2, d0, d4, hb3, _, _⟩ | ⟨rfl, hb3⟩)
  · have b3 := b2.trans (hb3.mono b2.size)
    have hsl := stv_len hP s m hf (by omega)
    have HFI := Lib.hid (HD.out.find w3 B S R P s m _ t hbn (by omega) (by omega) wt)
    have hfa := find_ask hP s (show 0 < m by omega) hf (by omega) t
    rw [hfa] at HFI
    obtain ⟨y, hy⟩ : ∃ y, (askV P s m A t).getD 0 = y := ⟨_, rfl⟩
    obtain ⟨b, hb⟩ : ∃ b, (askV P s m A t).isSome = b := ⟨_, rfl⟩
    rw [hy, hb] at HFI
    have HRF := Lib.hid (fun W hW => rfind13_any W M P s m A t y b hW hP hf (by omega) m1 m2 wt hy hb)
    have HRK := Lib.hid hrk
    have hyy : (y == y) = true := by simp
    have hbb : (b == b) = true := by simp
    clear hrk hbn hsr hf hP hof hfa hy hb hsl
    go_wp2_with fail
    refine HFI.out.mono ?_
    rintro e w4 ⟨rfl, hb4⟩
    have b4 := b3.trans (hb4.mono b3.size)
    go_wp2_with fail
    refine (HRF.out _ (HRK.out.call hb4 hn2).ref).mono ?_
    rintro e w5 ⟨rfl, hb5⟩
    go_wp2_with fail
    go_ret
    exact ⟨rfl, b4.trans (hb5.mono b4.size)⟩
  · have b3 := b2.trans (hb3.mono b2.size)
    go_wp2_with fail
    go_ret
    exact ⟨rfl, b3⟩
end Go.Proofs.YtdnmeninglfhlaaGreatDoor

/-
  How an argument of the laws is opened, and shut again: a wide number, a fraction, a word.
-/
namespace Go.Proofs.YtdnmeninglfhlaaGreatDoor
set_option linter.unusedVariables false
set_option maxRecDepth 100000
open Go.ChangeShapes Go.WideShapes Go.ChangeAt Go.RowKit Go.Joins

theorem own : ownKnob Tryz.prog.godebug = none := by kernel_rfl
theorem laidOut : laidOutB Tryz.prog = true := by kernel_rfl
theorem word_of_wf {x : Int} (h : (Lit.int .u64 x).wf = true) : Word x := by
  simp [Lit.wf, IntKind.min, IntKind.max, IntKind.signed, IntKind.bits] at h
  exact ⟨by omega, by omega⟩
theorem cellsWide : Tryz.prog.cellsOf 139 = 2 := by kernel_rfl
theorem wide_reads {H : Type} {enc : TypeId × Value → H} {a b : Int} (wa : (Lit.int .u64 a).wf = true) (wb : (Lit.int .u64 b).wf = true) (W' : World) (sp : Nat → Bool) :
    DataW.Trod enc Tryz.prog W' 0 sp true 139 (.agg #[.int .u64 a, .int .u64 b]) (.agg [.lit (.int .u64 a), .lit (.int .u64 b)]) [] :=
  shut_agg2 (y0 := (.lit (.int .u64 a), [])) (y1 := (.lit (.int .u64 b), [])) Tryz.underlying139 (by kernel_rfl) cellsWide ⟨1, by simp [DataW.trod, Tryz.underlying22, wa]⟩ ⟨1, by simp [DataW.trod, Tryz.underlying22, wb]⟩
theorem wide_opens {H : Type} {enc : TypeId × Value → H} {W : World} {r : Reach} {b0 : Nat} {sp : Nat → Bool} {v : Value} {d : DataW H} {p : List MemPlace} (hv : Value.okWide Tryz.prog W r b0 139 v) (h : DataW.Trod enc Tryz.prog W 0 sp true 139 v d p) :
    ∃ a b : Int, v = .agg #[.int .u64 a, .int .u64 b] ∧ d = .agg [.lit (.int .u64 a), .lit (.int .u64 b)] ∧ p = [] ∧ (Lit.int .u64 a).wf = true ∧ (Lit.int .u64 b).wf = true := by
  obtain ⟨c0, c1, y0, y1, m, rfl, rfl, rfl, hy0, hy1⟩ := open_agg2 Tryz.underlying139 (by kernel_rfl) cellsWide hv h
  obtain ⟨a, e0, rfl, wa⟩ := DataW.trod_int Tryz.underlying22 hy0
  obtain ⟨b, e1, rfl, wb⟩ := DataW.trod_int Tryz.underlying22 hy1
  simp at e0 e1
  subst e0 e1
  exact ⟨a, b, rfl, rfl, rfl, wa, wb⟩
theorem cellsRatio : Tryz.prog.cellsOf 24 = 2 := by kernel_rfl
theorem ratio_reads {H : Type} {enc : TypeId × Value → H} {a b : Int} (wa : (Lit.int .u64 a).wf = true) (wb : (Lit.int .u64 b).wf = true) (W' : World) (sp : Nat → Bool) :
    DataW.Trod enc Tryz.prog W' 0 sp true 24 (.agg #[.int .u64 a, .int .u64 b]) (.agg [.lit (.int .u64 a), .lit (.int .u64 b)]) [] :=
  shut_agg2 (y0 := (.lit (.int .u64 a), [])) (y1 := (.lit (.int .u64 b), [])) Tryz.underlying24 (by kernel_rfl) cellsRatio ⟨1, by simp [DataW.trod, Tryz.underlying22, wa]⟩ ⟨1, by simp [DataW.trod, Tryz.underlying22, wb]⟩
theorem ratio_opens {H : Type} {enc : TypeId × Value → H} {W : World} {r : Reach} {b0 : Nat} {sp : Nat → Bool} {v : Value} {d : DataW H} {p : List MemPlace} (hv : Value.okWide Tryz.prog W r b0 24 v) (h : DataW.Trod enc Tryz.prog W 0 sp true 24 v d p) :
    ∃ a b : Int, v = .agg #[.int .u64 a, .int .u64 b] ∧ d = .agg [.lit (.int .u64 a), .lit (.int .u64 b)] ∧ p = [] ∧ (Lit.int .u64 a).wf = true ∧ (Lit.int .u64 b).wf = true := by
  obtain ⟨c0, c1, y0, y1, m, rfl, rfl, rfl, hy0, hy1⟩ := open_agg2 Tryz.underlying24 (by kernel_rfl) cellsRatio hv h
  obtain ⟨a, e0, rfl, wa⟩ := DataW.trod_int Tryz.underlying22 hy0
  obtain ⟨b, e1, rfl, wb⟩ := DataW.trod_int Tryz.underlying22 hy1
  simp at e0 e1
  subst e0 e1
  exact ⟨a, b, rfl, rfl, rfl, wa, wb⟩
end Go.Proofs.YtdnmeninglfhlaaGreatDoor

/-
  How arguments are opened where the reach counts: bytes, half words, strings.
-/
namespace Go.Proofs.YtdnmeninglfhlaaGreatDoor
set_option linter.unusedVariables false
open Go.ChangeShapes Go.WideShapes Go.ChangeAt Go.RowKit Go.Joins

theorem byte_of_wf {x : Int} (h : (Lit.int .u8 x).wf = true) : 0 ≤ x ∧ x < 256 := by
  simp [Lit.wf, IntKind.min, IntKind.max, IntKind.signed, IntKind.bits] at h
  exact ⟨by omega, by omega⟩
theorem half_of_wf {x : Int} (h : (Lit.int .u32 x).wf = true) : 0 ≤ x ∧ x < 4294967296 := by
  simp [Lit.wf, IntKind.min, IntKind.max, IntKind.signed, IntKind.bits] at h
  exact ⟨by omega, by omega⟩
theorem size_reach {s : ByteArray} (h : s.data.toList.length ≤ reachBytes) : s.size ≤ 140737488351232 := by
  rw [Lib.size_eq]; exact h
end Go.Proofs.YtdnmeninglfhlaaGreatDoor

/-
  How a row of pairs, and a row of rows, that comes in as an argument is opened.
  How a pair that comes in as an argument by value is opened, and shut again.
-/
namespace Go.Proofs.YtdnmeninglfhlaaGreatDoor
set_option linter.unusedVariables false
set_option linter.unusedSimpArgs false
set_option maxRecDepth 100000
open Go.ChangeShapes Go.WideShapes Go.ChangeAt Go.RowKit Go.Joins

instance : Inhabited RowV := ⟨⟨none, 0, []⟩⟩
theorem add_deep (a : Addr) (i j : Nat) : (a.add i).add j = a.add (i + j) := Go.Deep.add_add a i j
theorem cellsPair : Tryz.prog.cellsOf 115 = 2 := by kernel_rfl
theorem bytesPair : Tryz.prog.bytesOf 115 = 16 := by kernel_rfl
theorem cellsRow2 : Tryz.prog.cellsOf 45 = 1 := by kernel_rfl
theorem bytesRow2 : Tryz.prog.bytesOf 45 = 24 := by kernel_rfl
/-- Two cells that read as a pair. -/
theorem open_pair {H : Type} {enc : TypeId × Value → H} {W : World} {base n : Nat} {spare : Nat → Bool} {held : Bool} {ad : Addr} {cs : List Value} {d : DataW H} {pl : List MemPlace}
    (hc : W.cells? base ad 2 = some cs) (h : DataW.trod enc Tryz.prog W base spare held n 115 cs = some (d, pl)) :
    ∃ p : PairV, okP p ∧ W.cell? (ad.add 0) = some (.int .i64 p.1) ∧ W.cell? (ad.add 1) = some (.int .u64 p.2) := by
  obtain ⟨_, hl, hat⟩ := World.cells?_some hc
  obtain ⟨ys, m, _, hx, _, hyl, hf⟩ := DataW.trod_struct Tryz.underlying115 h
  match cs, hl with
  | [x0, x1], _ =>
    have h0 := hf 0 _ rfl
    have h1 := hf 1 _ rfl
    match ys, hyl with
    | [y0, y1], _ =>
      obtain ⟨i, e0, r0, w0⟩ := DataW.trod_int Tryz.underlying3 h0
      obtain ⟨c, e1, r1, w1⟩ := DataW.trod_int Tryz.underlying22 h1
      have g0 : [x0] = [.int .i64 i] := e0
      have g1 : [x1] = [.int .u64 c] := e1
      simp only [List.cons.injEq, and_true] at g0 g1
      subst g0 g1
      exact ⟨(i, c), ⟨i64_of_wf w0, word_of_wf w1⟩, hat 0 (by omega), hat 1 (by omega)⟩
/-- Cells that read as a row of pairs. -/
theorem open_row {H : Type} {enc : TypeId × Value → H} {W : World} {n : Nat} {cs : List Value} {d : DataW H} {pl : List MemPlace}
    (hf : DataW.trod enc Tryz.prog W 0 (fun _ => true) true n 45 cs = some (d, pl)) (hz : ∀ n ∈ DataW.weights Tryz.prog 45 d, n ≤ reachBytes) :
    ∃ A cap L, cs = [.slice A (List.length L) cap] ∧ Pairs W A L ∧ L.length ≤ 140737488351232 := by
  rcases Go.Deep.open_slice Tryz.underlying45 hf with ⟨hcs, hx⟩ | ⟨a, len, cap, m, n, D, Pl, hcs, _, hl, hm, hmm, hx, hi⟩
  · exact ⟨none, 0, [], hcs, Pairs.nil W, Nat.zero_le _⟩
  · simp only [if_true] at hmm
    obtain rfl : cap = m := hmm.symm
    simp only [Prod.mk.injEq] at hx
    obtain ⟨rfl, rfl⟩ := hx
    have hw : DataW.weights Tryz.prog 45 (.slice ((List.range len).map D) ((List.range (cap - len)).map fun j => D (len + j))) =
        (((List.range len).map D).length + ((List.range (cap - len)).map fun j => D (len + j)).length) * Tryz.prog.bytesOf 115 ::
        (DataW.weightsAll Tryz.prog 115 ((List.range len).map D) ++ DataW.weightsAll Tryz.prog 115 ((List.range (cap - len)).map fun j => D (len + j))) := by
      conv => lhs; unfold DataW.weights
      rw [Tryz.underlying45]
    have hlen : len ≤ 140737488351232 := by
      have := hz _ (by rw [hw]; exact List.mem_cons_self)
      rw [bytesPair] at this
      simp only [List.length_map, List.length_range, reachBytes] at this
      omega
    have hall : ∀ i, i < len → ∃ p : PairV, okP p ∧ W.cell? (a.add (i * 2)) = some (.int .i64 p.1) ∧ W.cell? (a.add (i * 2 + 1)) = some (.int .u64 p.2) := by
      intro i hi'
      obtain ⟨cs', hc, ht⟩ := hi i (by omega)
      rw [cellsPair] at hc
      obtain ⟨p, i1, c0, c1⟩ := open_pair hc ht
      rw [add_deep] at c0 c1
      exact ⟨p, i1, c0, c1⟩
    obtain ⟨f, hf'⟩ := Go.Deep.choose_lt hall
    refine ⟨some a, cap, (List.range len).map f, by rw [hcs]; simp, ⟨?_, ?_⟩, by simpa using hlen⟩
    · intro p hp
      obtain ⟨i, hi1, rfl⟩ := List.mem_map.1 hp
      exact (hf' i (List.mem_range.1 hi1)).1
    · intro i p hp
      have hil : i < len := by
        rcases Nat.lt_or_ge i len with h | h
        · exact h
        · rw [List.getElem?_eq_none (by simpa using h)] at hp; cases hp
      simp only [List.getElem?_map, List.getElem?_range hil, Option.map_some, Option.some.injEq] at hp
      subst hp
      obtain ⟨_, c0, c1⟩ := hf' i hil
      obtain ⟨b, off, spot⟩ := a
      have hspot : spot = none := by
        have z0 := (hf' 0 (by omega)).2.1
        simpa [Addr.add] using World.cell?_spot z0
      subst hspot
      have hb : b < W.heap.size := by
        have := World.block_lt_of_cell? W _ c0
        revert this; unfold Addr.add; split <;> simp
      refine ⟨b, off, rfl, hb, ?_, ?_⟩
      · rw [← add_flat]; exact c0
      · rw [Nat.add_assoc, ← add_flat]; exact c1

theorem open_pairs {H : Type} {enc : TypeId × Value → H} {W : World} {base : Nat} {v : Value} {d : DataW H} {p : List MemPlace}
    (hv : Value.okWide Tryz.prog W .any base 45 v) (h : DataW.Trod enc Tryz.prog W 0 (fun _ => true) true 45 v d p)
    (hz : ∀ n ∈ DataW.weights Tryz.prog 45 d, n ≤ reachBytes) :
    ∃ A cap L, v = .slice A (List.length L) cap ∧ Pairs W A L ∧ L.length ≤ 140737488351232 := by
  obtain ⟨a0, len, cap, rfl⟩ := okWide_slice Tryz.underlying45 hv
  obtain ⟨fuel, hf⟩ := h
  obtain ⟨A, cap', L, hcs, hP, hl⟩ := open_row hf hz
  simp [Value.cells] at hcs
  obtain ⟨rfl, rfl, rfl⟩ := hcs
  exact ⟨_, _, L, rfl, hP, hl⟩

end Go.Proofs.YtdnmeninglfhlaaGreatDoor

namespace Go.Proofs.YtdnmeninglfhlaaGreatDoor
set_option maxRecDepth 100000
set_option linter.unusedVariables false
set_option linter.unusedSimpArgs false
open Go.ChangeShapes Go.WideShapes Go.ChangeAt Go.RowKit Go.Joins

theorem pair_reads {H : Type} {enc : TypeId × Value → H} {a b : Int} (wa : (Lit.int .i64 a).wf = true) (wb : (Lit.int .u64 b).wf = true) (W' : World) (sp : Nat → Bool) :
    DataW.Trod enc Tryz.prog W' 0 sp true 115 (.agg #[.int .i64 a, .int .u64 b]) (.agg [.lit (.int .i64 a), .lit (.int .u64 b)]) [] :=
  shut_agg2 (y0 := (.lit (.int .i64 a), [])) (y1 := (.lit (.int .u64 b), [])) Tryz.underlying115 (by kernel_rfl) cellsPair ⟨1, by simp [DataW.trod, Tryz.underlying3, wa]⟩ ⟨1, by simp [DataW.trod, Tryz.underlying22, wb]⟩
theorem pair_opens {H : Type} {enc : TypeId × Value → H} {W : World} {r : Reach} {b0 : Nat} {sp : Nat → Bool} {v : Value} {d : DataW H} {p : List MemPlace} (hv : Value.okWide Tryz.prog W r b0 115 v) (h : DataW.Trod enc Tryz.prog W 0 sp true 115 v d p) :
    ∃ a b : Int, v = .agg #[.int .i64 a, .int .u64 b] ∧ d = .agg [.lit (.int .i64 a), .lit (.int .u64 b)] ∧ p = [] ∧ (Lit.int .i64 a).wf = true ∧ (Lit.int .u64 b).wf = true := by
  obtain ⟨c0, c1, y0, y1, m, rfl, rfl, rfl, hy0, hy1⟩ := open_agg2 Tryz.underlying115 (by kernel_rfl) cellsPair hv h
  obtain ⟨a, e0, rfl, wa⟩ := DataW.trod_int Tryz.underlying3 hy0
  obtain ⟨b, e1, rfl, wb⟩ := DataW.trod_int Tryz.underlying22 hy1
  simp at e0 e1
  subst e0 e1
  exact ⟨a, b, rfl, rfl, rfl, wa, wb⟩
end Go.Proofs.YtdnmeninglfhlaaGreatDoor

/-
  How a row of values, and a case of layer 13's laws, that come in as arguments are opened.
-/
namespace Go.Proofs.YtdnmeninglfhlaaGreatDoor
set_option linter.unusedVariables false
set_option linter.unusedSimpArgs false
set_option maxRecDepth 100000
open Go.ChangeShapes Go.WideShapes Go.ChangeAt Go.RowKit Go.Joins

theorem cellsVal : Tryz.prog.cellsOf 62 = 2 := by kernel_rfl
theorem bytesVal : Tryz.prog.bytesOf 62 = 16 := by kernel_rfl
/-- Two cells that read as a pair. -/
theorem open_val {H : Type} {enc : TypeId × Value → H} {W : World} {base n : Nat} {spare : Nat → Bool} {held : Bool} {ad : Addr} {cs : List Value} {d : DataW H} {pl : List MemPlace}
    (hc : W.cells? base ad 2 = some cs) (h : DataW.trod enc Tryz.prog W base spare held n 62 cs = some (d, pl)) :
    ∃ p : PairV, okP p ∧ W.cell? (ad.add 0) = some (.int .i64 p.1) ∧ W.cell? (ad.add 1) = some (.int .u64 p.2) := by
  obtain ⟨_, hl, hat⟩ := World.cells?_some hc
  obtain ⟨ys, m, _, hx, _, hyl, hf⟩ := DataW.trod_struct Tryz.underlying62 h
  match cs, hl with
  | [x0, x1], _ =>
    have h0 := hf 0 _ rfl
    have h1 := hf 1 _ rfl
    match ys, hyl with
    | [y0, y1], _ =>
      obtain ⟨i, e0, r0, w0⟩ := DataW.trod_int Tryz.underlying2 h0
      obtain ⟨c, e1, r1, w1⟩ := DataW.trod_int Tryz.underlying22 h1
      have g0 : [x0] = [.int .i64 i] := e0
      have g1 : [x1] = [.int .u64 c] := e1
      simp only [List.cons.injEq, and_true] at g0 g1
      subst g0 g1
      exact ⟨(i, c), ⟨i64_of_wf w0, word_of_wf w1⟩, hat 0 (by omega), hat 1 (by omega)⟩
/-- Cells that read as a row of pairs. -/
theorem open_vrow {H : Type} {enc : TypeId × Value → H} {W : World} {n : Nat} {cs : List Value} {d : DataW H} {pl : List MemPlace}
    (hf : DataW.trod enc Tryz.prog W 0 (fun _ => true) true n 25 cs = some (d, pl)) (hz : ∀ n ∈ DataW.weights Tryz.prog 25 d, n ≤ reachBytes) :
    ∃ A cap L, cs = [.slice A (List.length L) cap] ∧ Pairs W A L ∧ L.length ≤ 140737488351232 := by
  rcases Go.Deep.open_slice Tryz.underlying25 hf with ⟨hcs, hx⟩ | ⟨a, len, cap, m, n, D, Pl, hcs, _, hl, hm, hmm, hx, hi⟩
  · exact ⟨none, 0, [], hcs, Pairs.nil W, Nat.zero_le _⟩
  · simp only [if_true] at hmm
    obtain rfl : cap = m := hmm.symm
    simp only [Prod.mk.injEq] at hx
    obtain ⟨rfl, rfl⟩ := hx
    have hw : DataW.weights Tryz.prog 25 (.slice ((List.range len).map D) ((List.range (cap - len)).map fun j => D (len + j))) =
        (((List.range len).map D).length + ((List.range (cap - len)).map fun j => D (len + j)).length) * Tryz.prog.bytesOf 62 ::
        (DataW.weightsAll Tryz.prog 62 ((List.range len).map D) ++ DataW.weightsAll Tryz.prog 62 ((List.range (cap - len)).map fun j => D (len + j))) := by
      conv => lhs; unfold DataW.weights
      rw [Tryz.underlying25]
    have hlen : len ≤ 140737488351232 := by
      have := hz _ (by rw [hw]; exact List.mem_cons_self)
      rw [bytesVal] at this
      simp only [List.length_map, List.length_range, reachBytes] at this
      omega
    have hall : ∀ i, i < len → ∃ p : PairV, okP p ∧ W.cell? (a.add (i * 2)) = some (.int .i64 p.1) ∧ W.cell? (a.add (i * 2 + 1)) = some (.int .u64 p.2) := by
      intro i hi'
      obtain ⟨cs', hc, ht⟩ := hi i (by omega)
      rw [cellsVal] at hc
      obtain ⟨p, i1, c0, c1⟩ := open_val hc ht
      rw [add_deep] at c0 c1
      exact ⟨p, i1, c0, c1⟩
    obtain ⟨f, hf'⟩ := Go.Deep.choose_lt hall
    refine ⟨some a, cap, (List.range len).map f, by rw [hcs]; simp, ⟨?_, ?_⟩, by simpa using hlen⟩
    · intro p hp
      obtain ⟨i, hi1, rfl⟩ := List.mem_map.1 hp
      exact (hf' i (List.mem_range.1 hi1)).1
    · intro i p hp
      have hil : i < len := by
        rcases Nat.lt_or_ge i len with h | h
        · exact h
        · rw [List.getElem?_eq_none (by simpa using h)] at hp; cases hp
      simp only [List.getElem?_map, List.getElem?_range hil, Option.map_some, Option.some.injEq] at hp
      subst hp
      obtain ⟨_, c0, c1⟩ := hf' i hil
      obtain ⟨b, off, spot⟩ := a
      have hspot : spot = none := by
        have z0 := (hf' 0 (by omega)).2.1
        simpa [Addr.add] using World.cell?_spot z0
      subst hspot
      have hb : b < W.heap.size := by
        have := World.block_lt_of_cell? W _ c0
        revert this; unfold Addr.add; split <;> simp
      refine ⟨b, off, rfl, hb, ?_, ?_⟩
      · rw [← add_flat]; exact c0
      · rw [Nat.add_assoc, ← add_flat]; exact c1

theorem open_vals {H : Type} {enc : TypeId × Value → H} {W : World} {base : Nat} {v : Value} {d : DataW H} {p : List MemPlace}
    (hv : Value.okWide Tryz.prog W .any base 25 v) (h : DataW.Trod enc Tryz.prog W 0 (fun _ => true) true 25 v d p)
    (hz : ∀ n ∈ DataW.weights Tryz.prog 25 d, n ≤ reachBytes) :
    ∃ A cap L, v = .slice A (List.length L) cap ∧ Pairs W A L ∧ L.length ≤ 140737488351232 := by
  obtain ⟨a0, len, cap, rfl⟩ := okWide_slice Tryz.underlying25 hv
  obtain ⟨fuel, hf⟩ := h
  obtain ⟨A, cap', L, hcs, hP, hl⟩ := open_vrow hf hz
  simp [Value.cells] at hcs
  obtain ⟨rfl, rfl, rfl⟩ := hcs
  exact ⟨_, _, L, rfl, hP, hl⟩

/-- A case by value. -/
theorem open_case {H : Type} {enc : TypeId × Value → H} {W : World} {base : Nat} {v : Value} {d : DataW H} {p : List MemPlace}
    (hv : Value.okWide Tryz.prog W .any base 27 v) (h : DataW.Trod enc Tryz.prog W 0 (fun _ => true) true 27 v d p)
    (hz : ∀ n ∈ DataW.weights Tryz.prog 27 d, n ≤ reachBytes) :
    ∃ (u x dg sd m : Int) (A : Option Addr) (cap : Nat) (L : List PairV), v = .agg #[.int .u64 u, .int .u64 x, .int .i64 dg, .int .i64 sd, .int .i64 m, .slice A (List.length L) cap] ∧ Word u ∧ Word x ∧ I64 dg ∧ I64 sd ∧ I64 m ∧ Pairs W A L ∧ L.length ≤ 140737488351232 := by
  obtain ⟨cs, rfl, hcs⟩ := okWide_struct Tryz.underlying27 hv
  obtain ⟨fuel, hf⟩ := h
  obtain ⟨ys, m, _, hx, hlen, hyl, hfi⟩ := DataW.trod_struct Tryz.underlying27 hf
  have hc6 : cs.size = 6 := hcs.trans (by kernel_rfl)
  obtain ⟨l⟩ := cs
  match l, hc6 with
  | [x0, x1, x2, x3, x4, x5], _ =>
    have h0 := hfi 0 _ rfl
    have h1 := hfi 1 _ rfl
    have h2 := hfi 2 _ rfl
    have h3 := hfi 3 _ rfl
    have h4 := hfi 4 _ rfl
    match ys, hyl with
    | [y0, y1, y2, y3, y4], _ =>
      obtain ⟨zs, m', _, hx', _, hzl, hgi⟩ := DataW.trod_struct Tryz.underlying24 h0
      have g0 := hgi 0 _ rfl
      have g1 := hgi 1 _ rfl
      match zs, hzl with
      | [z0, z1], _ =>
        obtain ⟨a, e0, r0, w0⟩ := DataW.trod_int Tryz.underlying22 g0
        obtain ⟨b, e1, r1, w1⟩ := DataW.trod_int Tryz.underlying22 g1
        obtain ⟨dg, e2, r2, w2⟩ := DataW.trod_int Tryz.underlying3 h1
        obtain ⟨sd, e3, r3, w3⟩ := DataW.trod_int Tryz.underlying3 h2
        obtain ⟨mm, e4, r4, w4⟩ := DataW.trod_int Tryz.underlying3 h3
        have q0 : [x0] = [.int .u64 a] := e0
        have q1 : [x1] = [.int .u64 b] := e1
        have q2 : [x2] = [.int .i64 dg] := e2
        have q3 : [x3] = [.int .i64 sd] := e3
        have q4 : [x4] = [.int .i64 mm] := e4
        simp only [List.cons.injEq, and_true] at q0 q1 q2 q3 q4
        subst q0 q1 q2 q3 q4
        have h4' : DataW.trod enc Tryz.prog W 0 (fun _ => true) true m 25 [x5] = some (y4.1, y4.2) := h4
        simp only [Prod.mk.injEq] at hx
        obtain ⟨A, cap, L, e5, hP, hl⟩ := open_vrow h4' (fun n hn => hz n (by
          rw [hx.1]
          unfold DataW.weights
          rw [Tryz.underlying27]
          exact DataW.weights_mem_each (j := 4) (t := 25) (d := y4.1) rfl rfl _ hn))
        simp only [List.cons.injEq, and_true] at e5
        subst e5
        exact ⟨a, b, dg, sd, mm, A, cap, L, rfl, word_of_wf w0, word_of_wf w1, i64_of_wf w2, i64_of_wf w3, i64_of_wf w4, hP, hl⟩
end Go.Proofs.YtdnmeninglfhlaaGreatDoor

/-
  Rows of values of the call's own, and how one is appended to one.
-/
namespace Go.Proofs.YtdnmeninglfhlaaGreatDoor
set_option linter.unusedVariables false
set_option linter.unusedSimpArgs false
set_option maxRecDepth 100000
open Go.RowKit

theorem own_vals {w : World} {base : Nat} {v : Value} {L : List PairV} (h : w.ownsRow base 62 2 v L.length (cellsQ L)) (hok : ∀ p, p ∈ L → okP p) :
    ∃ A cap, v = .slice A L.length cap ∧ Pairs w A L := by
  have hh := h
  rcases h.2 with ⟨rfl, h0⟩ | ⟨g, cap, cur, rfl, _, hg, _⟩
  · have e : L = [] := List.eq_nil_of_length_eq_zero h0
    subst e
    exact ⟨none, 0, rfl, hok, fun i p hi => by simp at hi⟩
  · refine ⟨some ⟨g, 0, none⟩, cap, rfl, hok, fun i p hi => ?_⟩
    have hc := hh.cells (g := g) rfl
    obtain ⟨c0, c1⟩ := cellsQ_at L i p hi
    refine ⟨g, 0, rfl, lt_of_block hg, ?_, ?_⟩
    · rw [← add_flat]; exact hc _ _ c0
    · rw [Nat.add_assoc, ← add_flat]; exact hc _ _ c1
theorem Tryz.infoVal : (Tryz.prog.info? 62).map (fun i => (i.zero, i.size, i.bytes)) = some (some (.agg #[.int .i64 0, .int .u64 0]), 2, 16) := by kernel_rfl
def OwnV (w : World) (base : Nat) (v : Value) (L : List PairV) : Prop := w.ownsRow base 62 2 v L.length (cellsQ L)
theorem OwnV.nil (w : World) (base : Nat) : OwnV w base (.slice none 0 0) [] := World.ownsRow_nil _ _ _ _
theorem OwnV.call {w w' : World} {base : Nat} {v : Value} {L : List PairV} (h : OwnV w base v L) (hb : Below w.heap.size w w') : OwnV w' base v L :=
  World.ownsRow.kept (row := none) h ⟨hb.os, hb.tape, hb.output, hb.size, fun i hi _ => hb.block i hi⟩ (by cases v.ownBlock <;> simp)
theorem OwnV.pairs {w : World} {base : Nat} {v : Value} {L : List PairV} (h : OwnV w base v L) (hok : ∀ p, p ∈ L → okP p) : ∃ A cap, v = .slice A L.length cap ∧ Pairs w A L := own_vals h hok
theorem OwnV.lt {w : World} {base : Nat} {v : Value} {L : List PairV} (h : OwnV w base v L) : ∀ k, v.ownBlock = some k → base ≤ k ∧ k < w.heap.size := World.ownsRow.lt h

theorem OwnV.form {w : World} {base : Nat} {v : Value} {L : List PairV} (h : OwnV w base v L) : ∃ A cap, v = .slice A L.length cap := by
  have h' : w.ownsRow base 62 2 v L.length (cellsQ L) := h
  rcases h'.2 with ⟨rfl, h0⟩ | ⟨g, cap, cur, rfl, _⟩
  · exact ⟨none, 0, by rw [h0]⟩
  · exact ⟨_, _, rfl⟩
/-- Appending a whole row of pairs, a nil one too, to one of the call's own. -/
theorem wpList_append_vals {w : World} {ops : Array Oper} {rest : List Oper} {o : Oper} {a : Act} {Q : Exit → Act → World → Prop} (hgd : o.guard = none) (s x : Operand)
    (ho : o.op = .call { callee := .builtin .append, args := #[s, x], argTypes := #[25, 25] })
    (base : Nat) (v : Value) (M : List PairV) (A : Option Addr) (cap : Nat) (L : List PairV) (hs : a.eval s = v) (hown : OwnV w base v M)
    (hx : a.eval x = .slice A L.length cap) (hsrc : Pairs w A L) (hn : M.length + L.length ≤ 100000) (hbase : base ≤ w.heap.size)
    (h : ∀ v' w', OwnV w' base v' (M ++ L) → w.grownBy w' v.ownBlock → wpList Tryz.prog ops Q rest (a.put o.dst v') w') : wpList Tryz.prog ops Q (o :: rest) a w := by
  obtain ⟨i0, hi, hz0, hz1, hz2⟩ := info_parts Tryz.infoVal
  by_cases hL : L = []
  · subst hL
    have hx' : a.eval x = .slice A 0 cap := hx
    have hrun : (Builtin.append_ #[25, 25] o.type #[v, .slice A 0 cap]).run Tryz.prog w = .ok v w := by
      have hl : ∀ (b : Option Addr) (n c : Nat), (Builtin.firstCells 2 0 (.slice A 0 cap)).run Tryz.prog w = .ok #[] w := by
        intro b n c
        cases A with
        | none => exact run_firstCells_none w 2 0 0 cap
        | some ad => exact run_firstCells_some w 2 0 ad 0 cap [] rfl (fun j v hj => by simp at hj)
      rcases hown.2 with ⟨rfl, h0⟩ | ⟨g, c2, cur, rfl, _, _, hnc, _⟩
      · rw [show (0 : Nat) = 0 from rfl] at *
        simp [Builtin.append_, run_underlying Tryz.underlying25, sizeOf, typeInfo, hi, hz1, Builtin.lenOf, hl none 0 0]
      · simp [Builtin.append_, run_underlying Tryz.underlying25, sizeOf, typeInfo, hi, hz1, Builtin.lenOf, hnc, storeCells, hl none 0 0]
    refine wpList_plain hgd fun K hK => ?_
    unfold Oper.wp
    simp [execOp, ho, resolve, invoke, builtin, hs, hx', hrun, Result.andThen]
    exact hK _ _ (h v w (by rw [List.append_nil]; exact hown) (World.grownBy.refl _ _))
  · obtain ⟨p, hp⟩ : ∃ p, L[0]? = some p := by
      cases L with
      | nil => exact absurd rfl hL
      | cons p r => exact ⟨p, rfl⟩
    obtain ⟨b, off, rfl, _, _, _⟩ := hsrc.at_ 0 p hp
    refine wpList_append_own w hgd s x _ ho base _ i0 _ 2 16 Tryz.underlying25 hi hz0 hz1 hz2 rfl (by decide) v M.length (cellsQ M) hs hown ⟨b, off, none⟩ L.length cap (cellsQ L) hx (cellsQ_len L) ?_ (cellsQ_one L)
      (by unfold maxLen; omega) (by omega) hbase (fun v' w' h1 h2 _ => h v' w' ?_ h2)
    · intro j u hu
      rw [add_flat]
      have hj : j < L.length * 2 := by
        rcases Nat.lt_or_ge j (L.length * 2) with h1 | h1
        · exact h1
        · rw [List.getElem?_eq_none (by rw [cellsQ_len]; exact h1)] at hu; cases hu
      have hq := List.getElem?_eq_getElem (l := L) (i := j / 2) (by omega)
      obtain ⟨b', off', e, _, c0, c1⟩ := hsrc.at_ (j / 2) _ hq
      obtain ⟨rfl, rfl⟩ : b = b' ∧ off = off' := by
        have := Option.some.inj e
        exact ⟨(Addr.mk.inj this).1, (Addr.mk.inj this).2.1⟩
      obtain ⟨q0, q1⟩ := cellsQ_at L (j / 2) _ hq
      rcases Nat.mod_two_eq_zero_or_one j with h2 | h2
      · have e1 : j / 2 * 2 = j := by omega
        rw [e1] at q0 c0; rw [q0] at hu; rw [c0, ← Option.some.inj hu]
      · have e1 : j / 2 * 2 + 1 = j := by omega
        rw [Nat.add_assoc, e1] at c1; rw [e1] at q1; rw [q1] at hu; rw [c1, ← Option.some.inj hu]
    · unfold OwnV
      rw [cellsQ_app, List.length_append]
      exact h1


theorem OwnV.below {a w w' : World} {base : Nat} {v : Value} {L : List PairV} (h : OwnV w base v L) (hb : Below base a w) (hg : w.grownBy w' v.ownBlock) (hs : base ≤ w.heap.size) : Below base a w' := hb.grown hg hs (fun k hk => (h.lt k hk).1)

/-- The reference's bins with a row of the call's own set. -/
theorem RefN.own {w : World} {M : Nat} {P : Pt} {s : Bool} {m : Int} {A : List PairV} {g cap : Nat} (h : RefN w M P s m []) (hv : Pairs w (some ⟨g, 0, none⟩) A) (hg : g ≠ M) :
    RefN (w.setCell ⟨M, 5, none⟩ (.slice (some ⟨g, 0, none⟩) A.length cap)) M P s m A := by
  obtain ⟨lo, re, dg, a0, cap0, h1, h2, h3⟩ := h.ex
  have hsz : (w.setCell ⟨M, 5, none⟩ (.slice (some ⟨g, 0, none⟩) A.length cap)).heap.size = w.heap.size := by simp [World.setCell]
  refine ⟨lo, re, dg, some ⟨g, 0, none⟩, cap, ?_, ⟨hv.ok, fun i p hp => ?_⟩, ?_⟩
  · cases P with
    | cells u v n =>
      obtain ⟨h0, g, k, c, c', e1, e2, n1, n2, e3, e4⟩ := h1
      exact ⟨h0, g, k, c, c', e1, e2, n1, n2, fun i hi => (setCell_other_heap n1 i).trans (e3 i hi), fun i hi => (setCell_other_heap n2 i).trans (e4 i hi)⟩
    | spans d L T => exact h1
  · obtain ⟨b, off, hb, hl, c0, c1⟩ := hv.at_ i p hp
    obtain ⟨rfl, rfl⟩ : g = b ∧ 0 = off := by
      have := Option.some.inj hb
      exact ⟨(Addr.mk.inj this).1, (Addr.mk.inj this).2.1⟩
    exact ⟨g, 0, rfl, by rw [hsz]; exact hl, (setCell_other_heap hg _).trans c0, (setCell_other_heap hg _).trans c1⟩
  · rw [Joins.block_setCell h3]; rfl
theorem RefN.void {w : World} {M : Nat} {P : Pt} {s : Bool} {m : Int} {a : Option Addr} {cap : Nat} (h : RefN w M P s m []) : RefN (w.setCell ⟨M, 5, none⟩ (.slice a 0 cap)) M P s m [] := by
  obtain ⟨lo, re, dg, a0, cap0, h1, h2, h3⟩ := h.ex
  refine ⟨lo, re, dg, a, cap, ?_, ⟨fun p h => (by cases h), fun i p hp => by simp at hp⟩, ?_⟩
  · cases P with
    | cells u v n =>
      obtain ⟨h0, g, k, c, c', e1, e2, n1, n2, e3, e4⟩ := h1
      exact ⟨h0, g, k, c, c', e1, e2, n1, n2, fun i hi => (setCell_other_heap n1 i).trans (e3 i hi), fun i hi => (setCell_other_heap n2 i).trans (e4 i hi)⟩
    | spans d L T => exact h1
  · rw [Joins.block_setCell h3]; rfl
end Go.Proofs.YtdnmeninglfhlaaGreatDoor

/-
  From a row's condition on the package's variable to what the walks of layer 12 ask.
-/
namespace Go.Proofs.YtdnmeninglfhlaaGreatDoor
set_option linter.unusedVariables false

theorem tens_of_laid {W : World} (h : laidMetH Tryz.prog [("ogive/spans.tens", Rows.laid_ogive_spans_tens)] W) : Tens W := by
  rw [MakeChecks.laidMetH_plain _ _ _ (by kernel_rfl)] at h
  have ht := Lib.tabIs_of_head (k := .u64) (zs := [1, 10, 100, 1000, 10000]) (g := 0) (t := 92) (e := 22) (n := 5) (by kernel_rfl) (by kernel_rfl) (by kernel_rfl) (by kernel_rfl) (by kernel_rfl) (by kernel_rfl) h
  have hg : Tryz.prog.globalNamed "ogive/spans.tens" = some 0 := by kernel_rfl
  exact ⟨ht.cell hg 0 (by decide), ht.cell hg 1 (by decide), ht.cell hg 2 (by decide), ht.cell hg 3 (by decide), ht.cell hg 4 (by decide)⟩
end Go.Proofs.YtdnmeninglfhlaaGreatDoor
