/-
  Texts joined, in build order: CellB, RefQ, RefV, CellN, BinC, RunsI, StripR, Plus, StripA, Grew, Cap, LowP, RunsP.
-/
import Derived.Test.YtdpimbepafgapaaGreatK2
import Derived.Test.YtdpimbepafgapaaGreatRows
import Derived.Deep.QuietTactic
import Derived.BigQuiet
import Derived.Deep.CutRange
import Derived.Deep.RegionWith
import Derived.Deep.AppendLies
import Derived.WalkKit
import Derived.WalkSpells
import Derived.WalkLawsBesides
import Derived.LoopTactic
import Derived.Lib.SmallJoins
import Derived.Deep.RegionHeld3
import Derived.Sort.Grow
import Derived.Below
import Derived.Deep.LoopGhost
/-
  Walks: a table of cells in memory, and all calls that read it, of a nil one too.
-/
namespace Go.Proofs.YtdpimbepafgapaaGreat
set_option linter.unusedVariables false
set_option linter.unusedSimpArgs false
open Go.RowKit

/-- The first n cells of a closeness. -/
def rowC (u v : Int) (n : Nat) : List CellV := (List.range n).map fun i => (endC u v (lowC u v i), repC u v (lowC u v i))
theorem rowC_len (u v : Int) (n : Nat) : (rowC u v n).length = n := by unfold rowC; simp
theorem rowC_at (u v : Int) {n i : Nat} (h : i < n) : (rowC u v n)[i]? = some (endC u v (lowC u v i), repC u v (lowC u v i)) := by
  unfold rowC; rw [List.getElem?_map, List.getElem?_range h]; rfl
theorem rowC_succ (u v : Int) (n : Nat) : rowC u v (n + 1) = rowC u v n ++ [(endC u v (lowC u v n), repC u v (lowC u v n))] := by
  unfold rowC; rw [List.range_succ, List.map_append]; rfl

/-- A table at block B, of n cells; S are its blocks. -/
def TabX (w : World) (B : Nat) (S : Nat → Prop) (u v : Int) (n : Nat) : Prop :=
  GoodC u v ∧ TabN u v n ∧ n ≤ 4096 ∧ ∃ g cap, w.heap[B]? = some (.cells #[.int .u64 u, .int .u64 v, .slice (some ⟨g, 0, none⟩) n cap] 146 (0, 0)) ∧ B < g ∧ OwnR w (B + 1) (.slice (some ⟨g, 0, none⟩) n cap) (rowC u v n) ∧ ∀ k, S k ↔ k = B ∨ k = g
theorem tabx_keep {w w' : World} {B : Nat} {S : Nat → Prop} {u v : Int} {n : Nat} (h : TabX w B S u v n) (hk : ∀ k, S k → w'.heap[k]? = w.heap[k]?) : TabX w' B S u v n := by
  obtain ⟨h1, h2, h3, g, cap, h4, h5, h6, h7⟩ := h
  exact ⟨h1, h2, h3, g, cap, (hk B ((h7 B).2 (Or.inl rfl))).trans h4, h5, h6.keep (hk g ((h7 g).2 (Or.inr rfl))), h7⟩
theorem tabx_lt {w : World} {B : Nat} {S : Nat → Prop} {u v : Int} {n : Nat} (h : TabX w B S u v n) : ∀ k, S k → k < w.heap.size := by
  obtain ⟨h1, h2, h3, g, cap, h4, h5, h6, h7⟩ := h
  intro k hk
  rcases (h7 k).1 hk with rfl | rfl
  · exact lt_of_block h4
  · exact (h6.lt _ rfl).2
theorem tabx_call {w w' : World} {B : Nat} {S : Nat → Prop} {u v : Int} {n : Nat} (h : TabX w B S u v n) (hb : Below w.heap.size w w') : TabX w' B S u v n :=
  tabx_keep h fun k hk => hb.block k (tabx_lt h k hk)
/-- What is read of a table. -/
structure TabC (w : World) (B g cap : Nat) (u v : Int) (n : Nat) : Prop where
  c0 : w.cell? ⟨B, 0, none⟩ = some (.int .u64 u)
  c1 : w.cell? ⟨B, 1, none⟩ = some (.int .u64 v)
  c2 : w.cell? ⟨B, 2, none⟩ = some (.slice (some ⟨g, 0, none⟩) n cap)
  ce : ∀ i, i < n → w.cell? ⟨g, i * 2, none⟩ = some (.int .u64 (endC u v (lowC u v i)))
  cr : ∀ i, i < n → w.cell? ⟨g, i * 2 + 1, none⟩ = some (.int .u64 (repC u v (lowC u v i)))
theorem tabx_cells {w : World} {B : Nat} {S : Nat → Prop} {u v : Int} {n : Nat} (h : TabX w B S u v n) : ∃ g cap, TabC w B g cap u v n := by
  obtain ⟨h1, h2, h3, g, cap, h4, h5, h6, h7⟩ := h
  exact ⟨g, cap, by rw [Joins.cell_of_block h4]; rfl, by rw [Joins.cell_of_block h4]; rfl, by rw [Joins.cell_of_block h4]; rfl, fun i hi => (h6.at_ (rowC_at u v hi)).1, fun i hi => (h6.at_ (rowC_at u v hi)).2⟩

set_option maxHeartbeats 400000 in
theorem cgood_any (u v : Int) (wu : Word u) (wv : Word v) (w : World) :
    Calls Tryz.prog 74 #[.agg #[.int .u64 u, .int .u64 v]] w fun e w' => e = .returned (.bool (goodC u v)) ∧ Below w.heap.size w w' := by
  by_cases h : u = 0
  · subst h
    have E : Hid (false = goodC 0 v) := Lib.hid (by unfold goodC; simp)
    go_enter Tryz.func74, Tryz.ntmps74
    go_wp2_with fail
    go_ret
    exact ⟨ret_bool E.out, (Below.refl _ _).alloc (Nat.le_refl _) _⟩
  · have hb0 : (u != 0) = true := by simp [h]
    have hb1 : (!u == 0) = true := by simp [h]
    have hp : 0 < u := by have := wu.1; omega
    by_cases hl : u < v
    · have E : Hid (decide (v ≤ 2147483648) = goodC u v) := Lib.hid (by unfold goodC; simp [hp, hl])
      go_enter Tryz.func74, Tryz.ntmps74
      go_wp2_with fail
      go_ret
      exact ⟨ret_bool E.out, (Below.refl _ _).alloc (Nat.le_refl _) _⟩
    · have E : Hid (false = goodC u v) := Lib.hid (by unfold goodC; simp [hl])
      have hlf : decide (u < v) = false := decide_eq_false hl
      go_enter Tryz.func74, Tryz.ntmps74
      go_wp2_with fail
      go_ret
      exact ⟨ret_bool E.out, (Below.refl _ _).alloc (Nat.le_refl _) _⟩

set_option maxHeartbeats 400000 in
theorem rcgood_any (u v : Int) (wu : Word u) (wv : Word v) (w : World) :
    Calls Tryz.prog 30 #[.agg #[.int .u64 u, .int .u64 v]] w fun e w' => e = .returned (.bool (goodC u v)) ∧ Below w.heap.size w w' := by
  by_cases h : 1 ≤ u
  · by_cases hl : u < v
    · have E : Hid (decide (v ≤ 2147483648) = goodC u v) := Lib.hid (by unfold goodC; have : 0 < u := by omega
                                                                        simp [this, hl])
      go_enter Tryz.func30, Tryz.ntmps30
      go_wp2_with fail
      go_ret
      exact ⟨ret_bool E.out, (Below.refl _ _).alloc (Nat.le_refl _) _⟩
    · have E : Hid (false = goodC u v) := Lib.hid (by unfold goodC; simp [hl])
      have hlf : decide (u < v) = false := decide_eq_false hl
      go_enter Tryz.func30, Tryz.ntmps30
      go_wp2_with fail
      go_ret
      exact ⟨ret_bool E.out, (Below.refl _ _).alloc (Nat.le_refl _) _⟩
  · have E : Hid (false = goodC u v) := Lib.hid (by unfold goodC; have : ¬ 0 < u := by omega
                                                    simp [this])
    have hlf : decide (1 ≤ u) = false := decide_eq_false h
    go_enter Tryz.func30, Tryz.ntmps30
    go_wp2_with fail
    go_ret
    exact ⟨ret_bool E.out, (Below.refl _ _).alloc (Nat.le_refl _) _⟩

set_option maxHeartbeats 400000 in
theorem tlen_at (w : World) (B g cap : Nat) (n : Nat) (h : w.cell? ⟨B, 2, none⟩ = some (.slice (some ⟨g, 0, none⟩) n cap)) :
    Calls Tryz.prog 159 #[.pointer (some ⟨B, 0, none⟩)] w fun e w' => e = .returned (.int .i64 n) ∧ w = w' := by
  go_enter Tryz.func159, Tryz.ntmps159
  go_wp2_with fail
  go_ret
  exact ⟨rfl, rfl⟩
theorem tlen_none (w : World) : Calls Tryz.prog 159 #[.pointer none] w fun e w' => e = .returned (.int .i64 0) ∧ w = w' := by
  go_enter Tryz.func159, Tryz.ntmps159
  go_wp2_with fail
  go_ret
  exact ⟨rfl, rfl⟩
theorem tlen_any (w : World) (B : Nat) (S : Nat → Prop) (u v : Int) (n : Nat) (h : TabX w B S u v n) :
    Calls Tryz.prog 159 #[.pointer (some ⟨B, 0, none⟩)] w fun e w' => e = .returned (.int .i64 n) ∧ w = w' := by
  obtain ⟨g, cap, h⟩ := tabx_cells h
  exact tlen_at w B g cap n h.c2

set_option maxHeartbeats 400000 in
theorem thas_at (w : World) (B g cap : Nat) (n : Nat) (i : Int) (b : Bool) (hi : I64 i) (h : w.cell? ⟨B, 2, none⟩ = some (.slice (some ⟨g, 0, none⟩) n cap)) (hb : decide (0 ≤ i ∧ i < n) = b) :
    Calls Tryz.prog 163 #[.pointer (some ⟨B, 0, none⟩), .int .i64 i] w fun e w' => e = .returned (.bool b) ∧ w = w' := by
  have HL := Lib.hid (tlen_at w B g cap n h)
  have HB := Lib.hid hb
  clear h hb
  by_cases h0 : 0 ≤ i
  · have E : Hid (decide (i < n) = b) := Lib.hid (by rw [← HB.out]; simp [h0])
    go_enter Tryz.func163, Tryz.ntmps163
    go_wp2_with fail
    refine HL.out.mono ?_
    rintro e w2 ⟨rfl, rfl⟩
    go_wp2_with fail
    go_ret
    exact ⟨ret_bool E.out, rfl⟩
  · have E : Hid (false = b) := Lib.hid (by rw [← HB.out]; simp [h0])
    have hf : decide (0 ≤ i) = false := decide_eq_false h0
    go_enter Tryz.func163, Tryz.ntmps163
    go_wp2_with fail
    go_ret
    exact ⟨ret_bool E.out, rfl⟩

set_option maxHeartbeats 400000 in
theorem thas_none (w : World) (i : Int) (hi : I64 i) :
    Calls Tryz.prog 163 #[.pointer none, .int .i64 i] w fun e w' => e = .returned (.bool false) ∧ w = w' := by
  by_cases h0 : 0 ≤ i
  · have E : decide (i < 0) = false := decide_eq_false (by omega)
    go_enter Tryz.func163, Tryz.ntmps163
    go_wp2_with fail
    refine (tlen_none _).mono ?_
    rintro e w2 ⟨rfl, rfl⟩
    go_wp2_with fail
    go_ret
    exact ⟨rfl, rfl⟩
  · have hf : decide (0 ≤ i) = false := decide_eq_false h0
    go_enter Tryz.func163, Tryz.ntmps163
    go_wp2_with fail
    go_ret
    exact ⟨rfl, rfl⟩

set_option maxHeartbeats 400000 in
theorem trep_none (w : World) (i : Int) (hi : I64 i) :
    Calls Tryz.prog 160 #[.pointer none, .int .i64 i] w fun e w' => e = .returned (.int .u64 0) ∧ w = w' := by
  go_enter Tryz.func160, Tryz.ntmps160
  go_wp2_with fail
  refine (thas_none _ i hi).mono ?_
  rintro e w2 ⟨rfl, rfl⟩
  go_wp2_with fail
  go_ret
  exact ⟨rfl, rfl⟩

set_option maxHeartbeats 400000 in
theorem trep_out (w : World) (B : Nat) (S : Nat → Prop) (u v : Int) (n : Nat) (i : Int) (h : TabX w B S u v n) (hi : I64 i) (ho : i < 0 ∨ n ≤ i) :
    Calls Tryz.prog 160 #[.pointer (some ⟨B, 0, none⟩), .int .i64 i] w fun e w' => e = .returned (.int .u64 0) ∧ w = w' := by
  obtain ⟨g, cap, h⟩ := tabx_cells h
  have HH := Lib.hid (thas_at w B g cap n i false hi h.c2 (decide_eq_false (by omega)))
  clear h
  go_enter Tryz.func160, Tryz.ntmps160
  go_wp2_with fail
  refine HH.out.mono ?_
  rintro e w2 ⟨rfl, rfl⟩
  go_wp2_with fail
  go_ret
  exact ⟨rfl, rfl⟩

set_option maxHeartbeats 400000 in
theorem trep_any (w : World) (B : Nat) (S : Nat → Prop) (u v : Int) (n i : Nat) (x : Int) (h : TabX w B S u v n) (hi : i < n) (hx : repC u v (lowC u v i) = x) :
    Calls Tryz.prog 160 #[.pointer (some ⟨B, 0, none⟩), .int .i64 i] w fun e w' => e = .returned (.int .u64 x) ∧ w = w' := by
  have hn := h.2.2.1
  obtain ⟨g, cap, h⟩ := tabx_cells h
  have HH := Lib.hid (thas_at w B g cap n i true (by unfold I64; omega) h.c2 (decide_eq_true (by omega)))
  have c2 := h.c2
  have cr := h.cr i hi
  have ki : (i : Int) < n := by omega
  rw [hx] at cr
  clear h hx
  go_enter Tryz.func160, Tryz.ntmps160
  go_wp2_with fail
  refine HH.out.mono ?_
  rintro e w2 ⟨rfl, rfl⟩
  go_wp2_with fail
  go_ret
  exact ⟨rfl, rfl⟩

end Go.Proofs.YtdpimbepafgapaaGreat
/-
  Walks: the reference of layer 13: Exact, Find, New.
-/
namespace Go.Proofs.YtdpimbepafgapaaGreat
set_option linter.unusedVariables false
set_option linter.unusedSimpArgs false
open Go.RowKit

theorem find_take_none {A : List PairV} {f : PairV → Bool} {k : Nat} {p : PairV} (h : A[k]? = some p) (h1 : (A.take k).find? f = none) (h2 : f p = false) : (A.take (k + 1)).find? f = none := by
  rw [take_snocP h, List.find?_append, h1, List.find?_cons, h2]; rfl
theorem find_take_some {A : List PairV} {f : PairV → Bool} {k : Nat} {p : PairV} (h : A[k]? = some p) (h1 : (A.take k).find? f = none) (h2 : f p = true) : A.find? f = some p := by
  have e : A = A.take (k + 1) ++ A.drop (k + 1) := (List.take_append_drop _ _).symm
  rw [e, List.find?_append, take_snocP h, List.find?_append, h1, List.find?_cons, h2]; rfl

set_option maxRecDepth 100000 in
set_option maxHeartbeats 4000000 in
theorem rexact_any (w : World) (a : Option Addr) (cap : Nat) (A : List PairV) (t x : Int) (b : Bool) (h : Pairs w a A) (ht : Word t) (hl : A.length ≤ 1000) (hb : sumP A < 9223372036854775808) (hx : (exactV A t).getD 0 = x) (hs : (exactV A t).isSome = b) :
    Calls Tryz.prog 18 #[.slice a A.length cap, .int .u64 t] w fun e w' => e = .returned (.tuple #[.int .i64 x, .bool b]) ∧ Below w.heap.size w w' := by
  have HI := Lib.hid h
  have HX := Lib.hid hx
  have HSB := Lib.hid hs
  have HP := Lib.hid (fun (f : Int → Bool) k => cnt_part (f := f) (A := A) k (ok_pos h.ok))
  obtain ⟨t0, t1⟩ := ht
  clear h hx hs
  go_enter Tryz.func18, Tryz.ntmps18
  go_wp2_with fail
  go_loopw [14] (fun j wr => ∃ k : Nat, k ≤ A.length ∧ j = .int .i64 k ∧ (A.take k).find? (isV A t) = none ∧ Below w.heap.size w wr) (fun j _ => A.length - (intOf j).toNat)
  case atStart => exact ⟨0, Nat.zero_le _, rfl, rfl, Below.refl _ _⟩
  case round =>
    obtain ⟨k, hk, rfl, hfn, hb2⟩ := hrel
    have HFN := Lib.hid hfn
    clear hfn
    by_cases hlt : k < A.length
    · have kk : (k : Int) < A.length := by omega
      have hxk : A[k]? = some A[k] := List.getElem?_eq_getElem hlt
      have HXK := Lib.hid hxk
      generalize hit : A[k] = p at *
      obtain ⟨px, pc⟩ := p
      obtain ⟨bb, off, rfl, hbl, c0, c1⟩ := (HI.out.call hb2).at_ k _ hxk
      have hok := HI.out.ok _ (List.mem_of_getElem? hxk)
      have hbs := hb2.size
      obtain ⟨⟨o1, o2⟩, o3, o4⟩ := hok
      simp only at c0 c1 o1 o2 o3 o4
      have HB3 := Lib.hid (hb2.alloc hbs (.cells #[.int .i64 px, .int .u64 pc] 52))
      have v0 : (wr.alloc (.cells #[.int .i64 px, .int .u64 pc] 52)).cell? ⟨wr.heap.size, 0, none⟩ = some (.int .i64 px) := by go_simp
      have vlt : wr.heap.size < (wr.alloc (.cells #[.int .i64 px, .int .u64 pc] 52)).heap.size := by simp
      clear hxk hit
      go_wp2_with fail
      generalize (wr.alloc (.cells #[.int .i64 px, .int .u64 pc] 52)) = wB at *
      obtain ⟨V, hV⟩ : ∃ V, wr.heap.size = V := ⟨_, rfl⟩
      rw [hV] at v0 vlt ⊢
      go_loopw [8, 9, 20] (fun s q j wz => ∃ i : Nat, i ≤ A.length ∧ j = .int .i64 i ∧ s = .int .u64 (cntV (fun y => decide (y < px)) (A.take i)) ∧ q = .int .u64 (cntV (fun y => y == px) (A.take i)) ∧ Below wB.heap.size wB wz) (fun _ _ j _ => A.length - (intOf j).toNat)
      case atStart => exact ⟨0, Nat.zero_le _, rfl, rfl, rfl, Below.refl _ _⟩
      case round =>
        obtain ⟨i, hi, rfl, rfl, rfl, hb4⟩ := hrel
        have hbs4 := hb4.size
        have vlt4 : V < wr.heap.size := by omega
        have z0 := cell_later hb4 v0
        have g1 := HP.out (fun y => decide (y < px)) i
        have g2 := HP.out (fun y => y == px) i
        obtain ⟨cl, hcl⟩ : ∃ cl, cntV (fun y => decide (y < px)) (A.take i) = cl := ⟨_, rfl⟩
        obtain ⟨cs, hcs⟩ : ∃ cs, cntV (fun y => y == px) (A.take i) = cs := ⟨_, rfl⟩
        have HCL := Lib.hid hcl
        have HCS := Lib.hid hcs
        rw [hcl] at g1 ⊢
        rw [hcs] at g2 ⊢
        obtain ⟨g11, g12⟩ := g1
        obtain ⟨g21, g22⟩ := g2
        clear hcl hcs
        by_cases hli : i < A.length
        · have ki : (i : Int) < A.length := by omega
          have hyk : A[i]? = some A[i] := List.getElem?_eq_getElem hli
          generalize hit : A[i] = p at *
          obtain ⟨qx, qc⟩ := p
          obtain ⟨b2, of2, e2, hbl2, d0, d1⟩ := (HI.out.call (HB3.out.trans (hb4.mono HB3.out.size))).at_ i _ hyk
          obtain ⟨rfl, rfl⟩ : bb = b2 ∧ off = of2 := by simpa using e2
          have hok2 := HI.out.ok _ (List.mem_of_getElem? hyk)
          obtain ⟨⟨p1, p2⟩, p3, p4⟩ := hok2
          have HS1 := Lib.hid (cnt_take (f := fun y => decide (y < px)) hyk)
          have HS2 := Lib.hid (cnt_take (f := fun y => y == px) hyk)
          have n1 := HP.out (fun y => decide (y < px)) (i + 1)
          have n2 := HP.out (fun y => y == px) (i + 1)
          rw [HS1.out, HCL.out] at n1
          rw [HS2.out, HCS.out] at n2
          simp only [decide_eq_true_eq, beq_iff_eq] at d0 d1 p1 p2 p3 p4 HS1 HS2 n1 n2
          clear hyk hit e2
          by_cases hq : qx < px
          · have e1 : ¬ qx = px := by omega
            have e3 : (qx == px) = false := by simp [e1]
            rw [if_pos hq] at n1 HS1
            rw [if_neg e1] at n2 HS2
            obtain ⟨n11, n12⟩ := n1
            clear n2
            go_wp2_with fail
            go_roundw
            case rel => exact ⟨i + 1, by omega, by go_num, by rw [HS1.out, HCL.out], by rw [HS2.out, HCS.out, Int.add_zero], hb4.alloc hbs4 _⟩
            case measure => simp [intOf]; omega
          · by_cases e1 : qx = px
            · have e3 : (qx == px) = true := by simp [e1]
              rw [if_neg hq] at n1 HS1
              rw [if_pos e1] at n2 HS2
              obtain ⟨n21, n22⟩ := n2
              clear n1
              subst e1
              go_wp2_with fail
              go_roundw
              case rel => exact ⟨i + 1, by omega, by go_num, by rw [HS1.out, HCL.out, Int.add_zero], by rw [HS2.out, HCS.out], hb4.alloc hbs4 _⟩
              case measure => simp [intOf]; omega
            · have e3 : (qx == px) = false := by simp [e1]
              rw [if_neg hq] at n1 HS1
              rw [if_neg e1] at n2 HS2
              clear n1 n2
              go_wp2_with fail
              go_roundw
              case rel => exact ⟨i + 1, by omega, by go_num, by rw [HS1.out, HCL.out, Int.add_zero], by rw [HS2.out, HCS.out, Int.add_zero], hb4.alloc hbs4 _⟩
              case measure => simp [intOf]; omega
        · obtain rfl : i = A.length := by omega
          have ki : ¬ (A.length : Int) < A.length := by omega
          rw [List.take_length] at HCL HCS
          have HB5 := Lib.hid (HB3.out.trans (hb4.mono HB3.out.size))
          have his : isV A t (px, pc) = (decide (cl < t) && decide (t ≤ cl + cs)) := by
            have a1 : ltV A px = cl := HCL.out
            have a2 : eqV A px = cs := HCS.out
            unfold isV; rw [a1, a2]
          by_cases f1 : cl < t
          · by_cases f2 : t ≤ cl + cs
            · have ht : isV A t (px, pc) = true := by rw [his]; simp [f1, f2]
              have hsome : exactV A t = some px := by unfold exactV; rw [find_take_some HXK.out HFN.out ht]; rfl
              have E : Hid (px = x ∧ true = b) := Lib.hid (by have a1 := HX.out; have a2 := HSB.out; rw [hsome] at a1 a2; exact ⟨a1, a2⟩)
              clear his ht hsome
              go_wp2_with fail
              go_ret2
              exact ⟨ret_pair E.out.1 E.out.2, HB5.out⟩
            · have ht : isV A t (px, pc) = false := by rw [his]; simp [f1, f2]
              have HN := Lib.hid (find_take_none HXK.out HFN.out ht)
              clear his ht
              go_wp2_with fail
              go_roundw
              case rel => exact ⟨k + 1, by omega, by go_num, HN.out, HB5.out⟩
              case measure => simp [intOf]; omega
          · have ht : isV A t (px, pc) = false := by rw [his]; simp [f1]
            have HN := Lib.hid (find_take_none HXK.out HFN.out ht)
            have f1' : ¬ t > cl := by omega
            clear his ht
            go_wp2_with fail
            go_roundw
            case rel => exact ⟨k + 1, by omega, by go_num, HN.out, HB5.out⟩
            case measure => simp [intOf]; omega
    · obtain rfl : k = A.length := by omega
      rw [List.take_length] at HFN
      have hnone : exactV A t = none := by unfold exactV; rw [HFN.out]; rfl
      have E : Hid (0 = x ∧ false = b) := Lib.hid (by have a1 := HX.out; have a2 := HSB.out; rw [hnone] at a1 a2; exact ⟨a1, a2⟩)
      have kk : ¬ (A.length : Int) < A.length := by omega
      clear hnone
      go_wp2_with fail
      go_ret2
      exact ⟨ret_pair E.out.1 E.out.2, hb2⟩
theorem fine_fit {A : List PairV} (hf : FineV A) (hl : A.length ≤ 1000) : sumP A < 9223372036854775808 := by
  have := fine_sum hf
  have : (A.length : Int) * 1125899906842624 ≤ 1000 * 1125899906842624 := Int.mul_le_mul_of_nonneg_right (by omega) (by omega)
  omega
set_option maxRecDepth 100000 in
set_option maxHeartbeats 4000000 in
theorem rfind13_any (w : World) (M : Nat) (P : Pt) (s : Bool) (m : Int) (A : List PairV) (t y : Int) (b : Bool) (h : RefN w M P s m A) (hP : P.ok) (hf : FineV A) (hl : A.length ≤ 1000) (m1 : 1 ≤ m) (m2 : m ≤ 4096) (wt : Word t) (hy : (askV P s m A t).getD 0 = y) (hs : (askV P s m A t).isSome = b) :
    Calls Tryz.prog 38 #[.pointer (some ⟨M, 0, none⟩), .int .u64 t] w fun e w' => e = .returned (.tuple #[.int .i64 y, .bool b]) ∧ Below w.heap.size w w' := by
  have HR := Lib.hid h
  have HPP := Lib.hid hP
  have HF := Lib.hid hf
  have HY := Lib.hid hy
  have HSB := Lib.hid hs
  obtain ⟨lo, re, dg, a, cap, hp, hv, hc⟩ := h.cells
  have c5 := hc.c5
  clear h hc hp hy hs
  cases hx : exactV A t with
  | none =>
    have E : Hid (0 = y ∧ false = b) := Lib.hid (by
      have e : askV P s m A t = none := by unfold askV; rw [hx]
      have a1 := HY.out; have a2 := HSB.out; rw [e] at a1 a2; exact ⟨a1, a2⟩)
    have HE := Lib.hid (rexact_any w a cap A t 0 false hv wt hl (fine_fit hf hl) (by rw [hx]; rfl) (by rw [hx]; rfl))
    clear hx hv hf hP HR HF HPP
    go_enter Tryz.func38, Tryz.ntmps38
    go_wp2_with fail
    refine HE.out.mono ?_
    rintro e w2 ⟨rfl, hb2⟩
    go_wp2_with fail
    go_ret2
    exact ⟨ret_pair E.out.1 E.out.2, hb2⟩
  | some x =>
    have HE := Lib.hid (rexact_any w a cap A t x true hv wt hl (fine_fit hf hl) (by rw [hx]; rfl) (by rw [hx]; rfl))
    obtain ⟨v, hvm, hvx, _⟩ := exact_of hx
    have hxi : I64 x := hvx ▸ (hf v hvm).1
    have HXI := Lib.hid hxi
    have hask : askV P s m A t = if x ≠ 0 ∧ countP (keepS s m (rowV P (decide (x < 0)) A)) (P.idx (mag x)) = 0 then none else some (standV P x) := by unfold askV; rw [hx]
    have HST := Lib.hid (fun W hW => rstands_any W M P s m A x (standV P x) hW hP hxi rfl)
    by_cases x0 : x = 0
    · subst x0
      have E : Hid (standV P 0 = y ∧ true = b) := Lib.hid (by
        have e : askV P s m A t = some (standV P 0) := by rw [hask, if_neg (by simp)]
        have a1 := HY.out; have a2 := HSB.out; rw [e] at a1 a2; exact ⟨a1, a2⟩)
      clear hask hx hv hf hP HF HPP HY HSB hvx hvm
      go_enter Tryz.func38, Tryz.ntmps38
      go_wp2_with fail
      refine HE.out.mono ?_
      rintro e w2 ⟨rfl, hb2⟩
      go_wp2_with fail
      refine (HST.out _ (HR.out.call hb2)).mono ?_
      rintro e w3 ⟨rfl, hb3⟩
      go_wp2_with fail
      go_ret2
      exact ⟨ret_pair E.out.1 E.out.2, hb2.trans (hb3.mono hb2.size)⟩
    · have z1 : (x == 0) = false := by simp [x0]
      have z2 : (x != 0) = true := by simp [x0]
      have z3 : (!x == 0) = true := by simp [x0]
      obtain ⟨g1, g2⟩ := mag_in hxi x0
      have hpi := pt_idx hP g1 g2
      have S50 := row_sum50 hP (decide (x < 0)) hf hl
      have HSZ := Lib.hid (fun W => size_any x hxi W)
      obtain ⟨mg, hmg⟩ : ∃ mg, mag x = mg := ⟨_, rfl⟩
      rw [hmg] at HSZ g1 g2 hpi hask
      obtain ⟨i, hi⟩ : ∃ i, P.idx mg = i := ⟨_, rfl⟩
      rw [hi] at hpi hask
      have HPT := Lib.hid (fun W hW => rpart13_any W M P s m A mg i hW hP g1 g2 hi)
      obtain ⟨lt, hlt⟩ : ∃ lt, sumP (rowV P (decide (x < 0)) A) - sumP (keepS s m (rowV P (decide (x < 0)) A)) = lt := ⟨_, rfl⟩
      have HKP := Lib.hid (fun W hW => rkept13_any W M P s m A (decide (x < 0)) lt hW hP hf hl m1 m2 hlt)
      have hko := keeps_ok (s := s) (m := m) S50.ok
      have hkl : (keepS s m (rowV P (decide (x < 0)) A)).length ≤ 1000 := by have := keeps_le s m (rowV P (decide (x < 0)) A); have := S50.len; omega
      have hks := keeps_sum s m (ok_pos S50.ok)
      have hkc := count_le_sum i (ok_pos hko)
      have hss : sumP (rowV P (decide (x < 0)) A) ≤ 9223372036854775807 := by
        have := S50.sum
        have : (A.length : Int) * 1125899906842624 ≤ 1000 * 1125899906842624 := Int.mul_le_mul_of_nonneg_right (by omega) (by omega)
        omega
      have HKO := Lib.hid hko
      generalize keepS s m (rowV P (decide (x < 0)) A) = K at *
      obtain ⟨n, hn⟩ : ∃ n, countP K i = n := ⟨_, rfl⟩
      rw [hn] at hkc hask
      have n0 : 0 ≤ n := hkc.1
      have n1 : n < 18446744073709551616 := by omega
      have HCO := Lib.hid (fun W A' cap' (hW : Pairs W A' K) => rcount_any W A' cap' K i n hW hkl (by unfold I64; omega) hn n1)
      have HHO := Lib.hid hlt
      obtain ⟨db, hdb⟩ : ∃ db, decide (x < 0) = db := ⟨_, rfl⟩
      rw [hdb] at HKP
      obtain ⟨kn, hkn⟩ : ∃ kn : Nat, K.length = kn := ⟨_, rfl⟩
      rw [hkn] at HCO
      have HKN := Lib.hid hkn
      by_cases nz : n = 0
      · have E : Hid (0 = y ∧ false = b) := Lib.hid (by
          have e : askV P s m A t = none := by rw [hask, if_pos ⟨x0, nz⟩]
          have a1 := HY.out; have a2 := HSB.out; rw [e] at a1 a2; exact ⟨a1, a2⟩)
        subst nz
        clear hask hx hv hf hP HF HPP HY HSB hvx hvm hmg hi hlt hko hkl hks hkc hss hn hkn HHO hpi S50
        go_enter Tryz.func38, Tryz.ntmps38
        go_wp2_with fail
        refine HE.out.mono ?_
        rintro e w2 ⟨rfl, hb2⟩
        go_wp2_with fail
        refine (HKP.out _ (HR.out.call hb2)).mono ?_
        rintro e w3 ⟨v3, rfl, hO, hb3⟩
        obtain ⟨ra, rcap, rfl, hpr⟩ := hO.pairs HKO.out
        have B3 := hb2.trans (hb3.mono hb2.size)
        rw [HKN.out]
        go_wp2_with fail
        refine (HSZ.out _).mono ?_
        rintro e w4 ⟨rfl, rfl⟩
        go_wp2_with fail
        refine (HPT.out _ (HR.out.call B3)).mono ?_
        rintro e w4 ⟨rfl, hb4⟩
        have HPR := Lib.hid (hpr.call hb4)
        have B4 := B3.trans (hb4.mono B3.size)
        go_wp2_with fail
        refine (HCO.out _ ra rcap HPR.out).mono ?_
        rintro e w5 ⟨rfl, hb5⟩
        go_wp2_with fail
        go_ret2
        exact ⟨ret_pair E.out.1 E.out.2, B4.trans (hb5.mono B4.size)⟩
      · have E : Hid (standV P x = y ∧ true = b) := Lib.hid (by
          have e : askV P s m A t = some (standV P x) := by rw [hask, if_neg (fun c => nz c.2)]
          have a1 := HY.out; have a2 := HSB.out; rw [e] at a1 a2; exact ⟨a1, a2⟩)
        have z4 : (n == 0) = false := by simp [nz]
        clear hask hx hv hf hP HF HPP HY HSB hvx hvm hmg hi hlt hko hkl hks hkc hss hn hkn HHO hpi S50
        go_enter Tryz.func38, Tryz.ntmps38
        go_wp2_with fail
        refine HE.out.mono ?_
        rintro e w2 ⟨rfl, hb2⟩
        go_wp2_with fail
        refine (HKP.out _ (HR.out.call hb2)).mono ?_
        rintro e w3 ⟨v3, rfl, hO, hb3⟩
        obtain ⟨ra, rcap, rfl, hpr⟩ := hO.pairs HKO.out
        have B3 := hb2.trans (hb3.mono hb2.size)
        rw [HKN.out]
        go_wp2_with fail
        refine (HSZ.out _).mono ?_
        rintro e w4 ⟨rfl, rfl⟩
        go_wp2_with fail
        refine (HPT.out _ (HR.out.call B3)).mono ?_
        rintro e w4 ⟨rfl, hb4⟩
        have HPR := Lib.hid (hpr.call hb4)
        have B4 := B3.trans (hb4.mono B3.size)
        go_wp2_with fail
        refine (HCO.out _ ra rcap HPR.out).mono ?_
        rintro e w5 ⟨rfl, hb5⟩
        have B5 := B4.trans (hb5.mono B4.size)
        go_wp2_with fail
        refine (HST.out _ (HR.out.call B5)).mono ?_
        rintro e w6 ⟨rfl, hb6⟩
        go_wp2_with fail
        go_ret2
        exact ⟨ret_pair E.out.1 E.out.2, B5.trans (hb6.mono B5.size)⟩
end Go.Proofs.YtdpimbepafgapaaGreat

/-
  Walks: the reference of layer 13: New; all its values set.
-/
namespace Go.Proofs.YtdpimbepafgapaaGreat
set_option linter.unusedVariables false
set_option linter.unusedSimpArgs false
open Go.RowKit

/-- The partition of a closeness, or of so many digits. -/
def PtOf (dg u v : Int) : Pt → Prop
  | .cells a b n => dg = 0 ∧ a = u ∧ b = v
  | .spans d L T => d = dg
/-- There is none such: no closeness, or too many cells. -/
def NoPt (dg u v : Int) : Prop := dg = 0 ∧ (goodC u v = false ∨ (GoodC u v ∧ lowC u v 4096 ≤ 9223372036854775808))
theorem pt_one {dg u v : Int} {P Q : Pt} (hP : P.ok) (hQ : Q.ok) (h : PtOf dg u v P) (k : PtOf dg u v Q) : P = Q := by
  cases P with
  | cells a b n =>
    obtain ⟨h0, rfl, rfl⟩ := h
    cases Q with
    | cells c d n' =>
      obtain ⟨_, rfl, rfl⟩ := k
      rw [tab_one hP.1 hP.2.1 hQ.2.1]
    | spans d L T =>
      have k' : d = dg := k
      have : SpanP d L T := hQ
      unfold SpanP at this; omega
  | spans d L T =>
    have h' : d = dg := h
    have hs : SpanP d L T := hP
    cases Q with
    | cells c e n' =>
      obtain ⟨k0, _, _⟩ := k
      unfold SpanP at hs; omega
    | spans e L' T' =>
      have k' : e = dg := k
      have hs' : SpanP e L' T' := hQ
      obtain rfl : d = e := by omega
      have : L = L' ∧ T = T' := by unfold SpanP at hs hs'; omega
      rw [this.1, this.2]
theorem pt_none {dg u v : Int} {P : Pt} (hP : P.ok) (h : PtOf dg u v P) (k : NoPt dg u v) : False := by
  cases P with
  | cells a b n =>
    obtain ⟨h0, rfl, rfl⟩ := h
    obtain ⟨g, t, hn⟩ := hP
    rcases k.2 with c | ⟨_, c⟩
    · rw [goodC_iff.2 g] at c; cases c
    · have := low_mono g hn
      rw [t.2] at this; omega
  | spans d L T =>
    have h' : d = dg := h
    have hs : SpanP d L T := hP
    have := k.1
    unfold SpanP at hs; omega
/-- The rows of cells lie in blocks that are not older. -/
def Far (n : Nat) (w : World) (M : Nat) : Prop := ∀ (o g l c : Nat), o = 0 ∨ o = 1 → w.cell? ⟨M, o, none⟩ = some (.slice (some ⟨g, 0, none⟩) l c) → n ≤ g
theorem far_block {n : Nat} {w : World} {M : Nat} {x0 x1 x2 x3 x4 x5 : Value} {t : TypeId} (hb : w.heap[M]? = some (.cells #[x0, x1, x2, x3, x4, x5] t (0, 0))) (h0 : ∀ g l c, x0 = .slice (some ⟨g, 0, none⟩) l c → n ≤ g) (h1 : ∀ g l c, x1 = .slice (some ⟨g, 0, none⟩) l c → n ≤ g) : Far n w M := by
  intro o g l c ho hc
  rw [Joins.cell_of_block hb] at hc
  rcases ho with rfl | rfl
  · exact h0 g l c (Option.some.inj hc)
  · exact h1 g l c (Option.some.inj hc)
theorem far_same {n : Nat} {w w' : World} {M : Nat} (h : Far n w M) (hk : w'.heap[M]? = w.heap[M]?) : Far n w' M := fun o g l c ho hc => h o g l c ho (by rw [← hc]; unfold World.cell?; simp only [hk])
/-- What New tells: the reference's bins, without values, or that there are none such. -/
def NewN (w : World) (dg u v : Int) (s : Bool) (m : Int) (e : Ending) (w' : World) : Prop :=
  (∃ M P, P.ok ∧ PtOf dg u v P ∧ e = .returned (.tuple #[.pointer (some ⟨M, 0, none⟩), .bool true]) ∧ RefN w' M P s m [] ∧ w.heap.size ≤ M ∧ Below w.heap.size w w' ∧ Far w.heap.size w' M) ∨
  (NoPt dg u v ∧ e = .returned (.tuple #[.pointer none, .bool false]) ∧ Below w.heap.size w w')

theorem setCell_other_heap {w : World} {g M o : Nat} {x : Value} (h : g ≠ M) (i : Nat) : (w.setCell ⟨M, o, none⟩ x).cell? ⟨g, i, none⟩ = w.cell? ⟨g, i, none⟩ :=
  World.cell?_setCell_other _ _ _ _ (two_far (fun e => h e.symm))
/-- All values set: the model of a partition has these. -/
theorem RefN.vals {w0 w : World} {M : Nat} {P : Pt} {s : Bool} {m : Int} {A : List PairV} {a : Option Addr} {cap : Nat} (h : RefN w M P s m []) (hv : Pairs w0 a A) (hb : Below w0.heap.size w0 w) (hM : w0.heap.size ≤ M) :
    RefN (w.setCell ⟨M, 5, none⟩ (.slice a A.length cap)) M P s m A := by
  obtain ⟨lo, re, dg, a0, cap0, h1, h2, h3⟩ := h.ex
  refine ⟨lo, re, dg, a, cap, ?_, hv.call (hb.setCell (p := ⟨M, 5, none⟩) hM _), ?_⟩
  · cases P with
    | cells u v n =>
      obtain ⟨h0, g, k, c, c', e1, e2, n1, n2, e3, e4⟩ := h1
      exact ⟨h0, g, k, c, c', e1, e2, n1, n2, fun i hi => (setCell_other_heap n1 i).trans (e3 i hi), fun i hi => (setCell_other_heap n2 i).trans (e4 i hi)⟩
    | spans d L T => exact h1
  · rw [Joins.block_setCell h3]; rfl

theorem ownw_some {w : World} {base n cap : Nat} {A : Option Addr} {L : List Int} (h : OwnW w base (.slice A n cap) L) (hn : 1 ≤ L.length) : ∃ g, A = some ⟨g, 0, none⟩ ∧ base ≤ g ∧ ∀ i x, L[i]? = some x → w.cell? ⟨g, i, none⟩ = some (.int .u64 x) := by
  have hh : w.ownsRow base 22 1 (.slice A n cap) L.length (wordsL L) := h
  rcases hh.2 with ⟨e, h0⟩ | ⟨g, cap', cur, e, hb, hg, r⟩
  · omega
  · have e' := e
    injection e' with e1 e2 e3
    subst e1
    refine ⟨g, rfl, hb, fun i x hi => ?_⟩
    obtain ⟨g', eg, _, hc⟩ := h.at_ hi
    have : g = g' := by simpa using eg
    rw [this]; exact hc

set_option maxRecDepth 100000 in
set_option maxHeartbeats 4000000 in
theorem rnew13_any (u v dg : Int) (s : Bool) (m : Int) (wu : Word u) (wv : Word v) (d0 : 0 ≤ dg) (d4 : dg ≤ 4) (hm : I64 m) (w : World) :
    Calls Tryz.prog 35 #[.agg #[.int .u64 u, .int .u64 v], .int .i64 dg, .int .i64 (sideI s), .int .i64 m] w (NewN w dg u v s m) := by
  have s0 : 0 ≤ sideI s ∧ sideI s ≤ 1 := by unfold sideI; split <;> omega
  obtain ⟨sd, hsd⟩ : ∃ sd, sideI s = sd := ⟨_, rfl⟩
  have HSD := Lib.hid hsd
  rw [hsd] at s0 ⊢
  obtain ⟨s0, s1⟩ := s0
  obtain ⟨m0, m1⟩ := hm
  clear hsd
  have hMb : ∀ d, ((w.alloc (.cells #[.int .u64 u, .int .u64 v] 24)).alloc (.cells #[.slice none 0 0, .slice none 0 0, .int .i64 d, .int .i64 sd, .int .i64 m, .slice none 0 0] 48)).heap[w.heap.size + 1]? = some (.cells #[.slice none 0 0, .slice none 0 0, .int .i64 d, .int .i64 sd, .int .i64 m, .slice none 0 0] 48 (0, 0)) := by
    intro d
    have e : (w.alloc (.cells #[.int .u64 u, .int .u64 v] 24)).heap.size = w.heap.size + 1 := by simp
    have := heap_new (w.alloc (.cells #[.int .u64 u, .int .u64 v] 24)) (.cells #[.slice none 0 0, .slice none 0 0, .int .i64 d, .int .i64 sd, .int .i64 m, .slice none 0 0] 48)
    rw [e] at this; exact this
  have hBw : ∀ d, Below w.heap.size w ((w.alloc (.cells #[.int .u64 u, .int .u64 v] 24)).alloc (.cells #[.slice none 0 0, .slice none 0 0, .int .i64 d, .int .i64 sd, .int .i64 m, .slice none 0 0] 48)) := fun d => ((Below.refl w.heap.size w).alloc (Nat.le_refl _) _).alloc (by simp) _
  have hsz : ∀ d, ((w.alloc (.cells #[.int .u64 u, .int .u64 v] 24)).alloc (.cells #[.slice none 0 0, .slice none 0 0, .int .i64 d, .int .i64 sd, .int .i64 m, .slice none 0 0] 48)).heap.size = w.heap.size + 2 := by intro d; simp
  have hp0 : ∀ d, ((w.alloc (.cells #[.int .u64 u, .int .u64 v] 24)).alloc (.cells #[.slice none 0 0, .slice none 0 0, .int .i64 d, .int .i64 sd, .int .i64 m, .slice none 0 0] 48)).cell? ⟨w.heap.size, 0, none⟩ = some (.int .u64 u) := fun d => cell_later ((Below.refl _ _).alloc (Nat.le_refl _) _) (by go_simp)
  have hp1 : ∀ d, ((w.alloc (.cells #[.int .u64 u, .int .u64 v] 24)).alloc (.cells #[.slice none 0 0, .slice none 0 0, .int .i64 d, .int .i64 sd, .int .i64 m, .slice none 0 0] 48)).cell? ⟨w.heap.size, 1, none⟩ = some (.int .u64 v) := fun d => cell_later ((Below.refl _ _).alloc (Nat.le_refl _) _) (by go_simp)
  by_cases hd : dg = 0
  · subst hd
    have hMb := hMb 0
    have hBw := hBw 0
    have hsz := hsz 0
    have hp0 := hp0 0
    have hp1 := hp1 0
    by_cases hg : goodC u v = true
    · have g := goodC_iff.1 hg
      have HRG := Lib.hid (fun W => rcgood_any u v wu wv W)
      rw [hg] at HRG
      have HRC := Lib.hid (fun W => rcells_any u v g W)
      have HG := Lib.hid g
      clear hg g
      go_enter Tryz.func35, Tryz.ntmps35
      go_wp2_with fail
      refine (HRG.out _).mono ?_
      rintro e w2 ⟨rfl, hb2⟩
      have p0 := cell_later hb2 hp0
      have p1 := cell_later hb2 hp1
      have hMB := Lib.hid ((hb2.block _ (by rw [hsz]; omega)).trans hMb)
      have B2 := hBw.trans (hb2.mono (by rw [hsz]; omega))
      have hz2 : w.heap.size + 2 ≤ w2.heap.size := by have := hb2.size; rw [hsz] at this; exact this
      clear hb2 hp0 hp1 hMb hBw hsz
      go_wp2_with fail
      refine (HRC.out _).mono ?_
      rintro e w3 (⟨n, A, c, A', c', ht, n1, n2, rfl, hL, hR, hb3⟩ | ⟨rfl, hl, hb3⟩)
      · have hMB3 := (hb3.block _ (by omega)).trans hMB.out
        have q0 : w3.cell? ⟨w.heap.size + 1, 0, none⟩ = some (.slice none 0 0) := by rw [Joins.cell_of_block hMB3]; rfl
        have q1 : w3.cell? ⟨w.heap.size + 1, 1, none⟩ = some (.slice none 0 0) := by rw [Joins.cell_of_block hMB3]; rfl
        have f0 : w3.frozen? ⟨w.heap.size + 1, 0, none⟩ = false := Joins.unfrozen_of_block hMB3 0
        have f1 : w3.frozen? ⟨w.heap.size + 1, 1, none⟩ = false := Joins.unfrozen_of_block hMB3 1
        have HMB3 := Lib.hid hMB3
        have HT := Lib.hid ht
        have HLr := Lib.hid hL
        have HRr := Lib.hid hR
        have B3 := B2.trans (hb3.mono B2.size)
        have hz3 : w.heap.size + 2 ≤ w3.heap.size := by have := hb3.size; omega
        clear hMB3 hMB ht hL hR hb3 p0 p1
        go_wp2_with fail
        go_ret2
        obtain ⟨ga, rfl, ba, oa⟩ := ownw_some HLr.out (by rw [lowsC_len]; exact n1)
        obtain ⟨gb, rfl, bb, ob⟩ := ownw_some HRr.out (by rw [repsC_len]; exact n1)
        have hfb := far_block (n := w.heap.size) (w := (w3.setCell ⟨w.heap.size + 1, 0, none⟩ (.slice (some ⟨ga, 0, none⟩) n c)).setCell ⟨w.heap.size + 1, 1, none⟩ (.slice (some ⟨gb, 0, none⟩) n c')) (M := w.heap.size + 1) (by rw [Joins.block_setCell (Joins.block_setCell HMB3.out _)]; rfl) (fun g l c e => by injection e with e; have := (Addr.mk.inj (Option.some.inj e)).1; omega) (fun g l c e => by injection e with e; have := (Addr.mk.inj (Option.some.inj e)).1; omega)
        refine Or.inl ⟨w.heap.size + 1, .cells u v n, ⟨HG.out, HT.out, n2⟩, ⟨rfl, rfl, rfl⟩, rfl, ?_, by omega, (B3.setCell (p := ⟨w.heap.size + 1, 0, none⟩) (by show w.heap.size ≤ w.heap.size + 1; omega) _).setCell (p := ⟨w.heap.size + 1, 1, none⟩) (by show w.heap.size ≤ w.heap.size + 1; omega) _, hfb⟩
        have na : ga ≠ w.heap.size + 1 := by omega
        have nb : gb ≠ w.heap.size + 1 := by omega
        refine ⟨_, _, 0, none, 0, ⟨rfl, ga, gb, c, c', rfl, rfl, na, nb, fun i hi => ?_, fun i hi => ?_⟩, Pairs.nil _, ?_⟩
        · rw [setCell_other_heap na, setCell_other_heap na]; exact oa i _ (lowsC_at u v hi)
        · rw [setCell_other_heap nb, setCell_other_heap nb]; exact ob i _ (repsC_at u v hi)
        · rw [Joins.block_setCell (Joins.block_setCell HMB3.out _), HSD.out]; rfl
      · have B3 := B2.trans (hb3.mono B2.size)
        go_wp2_with fail
        go_ret2
        exact Or.inr ⟨⟨rfl, Or.inr ⟨HG.out, hl⟩⟩, rfl, B3⟩
    · have hf : goodC u v = false := by simpa using hg
      have HRG := Lib.hid (fun W => rcgood_any u v wu wv W)
      rw [hf] at HRG
      clear hg
      go_enter Tryz.func35, Tryz.ntmps35
      go_wp2_with fail
      refine (HRG.out _).mono ?_
      rintro e w2 ⟨rfl, hb2⟩
      have B2 := hBw.trans (hb2.mono (by rw [hsz]; omega))
      go_wp2_with fail
      go_ret2
      exact Or.inr ⟨⟨rfl, Or.inl hf⟩, rfl, B2⟩
  · have z1 : (dg == 0) = false := by simp [hd]
    obtain ⟨L, T, hs⟩ := spanp_of (show 1 ≤ dg by omega) d4
    have hMb := Lib.hid (hMb dg)
    have hBw := Lib.hid (hBw dg)
    have HS := Lib.hid hs
    clear hs hsz hp0 hp1
    go_enter Tryz.func35, Tryz.ntmps35
    go_wp2_with fail
    go_ret2
    exact Or.inl ⟨w.heap.size + 1, .spans dg L T, HS.out, rfl, rfl, ⟨_, _, dg, none, 0, ⟨rfl, rfl, rfl⟩, Pairs.nil _, by rw [HSD.out]; exact hMb.out⟩, by omega, hBw.out, far_block hMb.out (fun g l c e => by injection e with e; cases e) (fun g l c e => by injection e with e; cases e)⟩
end Go.Proofs.YtdpimbepafgapaaGreat

/-
  Walks: a table's New.
-/
namespace Go.Proofs.YtdpimbepafgapaaGreat
set_option linter.unusedVariables false
set_option linter.unusedSimpArgs false
open Go.RowKit

theorem set_cells11 {w : World} {b : Nat} {cs : Array Value} {t : TypeId} (h : w.heap[b]? = some (.cells cs t (0, 0))) (o : Nat) (u : Value) : (w.setCell ⟨b, o, none⟩ u).heap[b]? = some (.cells (cs.setIfInBounds o u) t (0, 0)) := by
  have hlt := lt_of_block h
  have h' : w.heap[b] = .cells cs t (0, 0) := by simpa [Array.getElem?_eq_getElem hlt] using h
  show (w.heap.modify b _)[b]? = _
  rw [Array.getElem?_eq_getElem (by simpa using hlt), Array.getElem_modify_self, h']
  rfl
/-- A table on its way: its closeness in a box, the table at block B, its cells so far behind it. -/
structure Way (w0 w : World) (B : Nat) (u v : Int) (L : List CellV) : Prop where
  p0 : w.cell? ⟨w0.heap.size, 0, none⟩ = some (.int .u64 u)
  p1 : w.cell? ⟨w0.heap.size, 1, none⟩ = some (.int .u64 v)
  b : ∃ x, w.heap[B]? = some (.cells #[.int .u64 u, .int .u64 v, x] 146 (0, 0)) ∧ OwnR w (B + 1) x L
  bel : Below w0.heap.size w0 w
theorem Way.call {w0 w w' : World} {B : Nat} {u v : Int} {L : List CellV} (h : Way w0 w B u v L) (hb : Below w.heap.size w w') : Way w0 w' B u v L := by
  obtain ⟨p0, p1, ⟨x, hx, ho⟩, bel⟩ := h
  exact ⟨cell_later hb p0, cell_later hb p1, ⟨x, (hb.block _ (lt_of_block hx)).trans hx, ho.call hb⟩, bel.trans (hb.mono bel.size)⟩
/-- Behind an append to its cells, which lie in a world that has but more blocks. -/
theorem Way.put {w0 w W w1 : World} {B : Nat} {u v : Int} {L M : List CellV} {x x' : Value} (h : Way w0 w B u v L) (hx : w.heap[B]? = some (.cells #[.int .u64 u, .int .u64 v, x] 146 (0, 0))) (hB : w0.heap.size + 1 ≤ B) (hW : Below w.heap.size w W)
    (hown : OwnR W (B + 1) x L) (ho : OwnR w1 (B + 1) x' M) (hg : W.grownBy w1 x.ownBlock) : Way w0 (w1.setCell ⟨B, 2, none⟩ x') B u v M ∧ w1.heap[B]? = some (.cells #[.int .u64 u, .int .u64 v, x] 146 (0, 0)) ∧
      ∀ (k o : Nat) (y : Value), k ≠ B → x.ownBlock ≠ some k → W.cell? ⟨k, o, none⟩ = some y → (w1.setCell ⟨B, 2, none⟩ x').cell? ⟨k, o, none⟩ = some y := by
  obtain ⟨p0, p1, _, bel⟩ := h
  have hlt := lt_of_block hx
  have hz := hW.size
  have hne : ∀ k, x.ownBlock = some k → B + 1 ≤ k := fun k hk => (hown.lt k hk).1
  have hb1 : Below (B + 1) w w1 := (hW.mono (by omega)).grown hg (by omega) hne
  have hB1 : w1.heap[B]? = some (.cells #[.int .u64 u, .int .u64 v, x] 146 (0, 0)) := (hb1.block B (by omega)).trans hx
  have hc : ∀ (o : Nat) (y : Value), w.cell? ⟨w0.heap.size, o, none⟩ = some y → (w1.setCell ⟨B, 2, none⟩ x').cell? ⟨w0.heap.size, o, none⟩ = some y := by
    intro o y hy
    rw [World.cell?_setCell_other _ _ _ _ (two_far (by omega))]
    exact (World.cell?_of_block (a := ⟨w0.heap.size, o, none⟩) (hb1.block _ (by show w0.heap.size < B + 1; omega))).trans hy
  refine ⟨⟨hc 0 _ p0, hc 1 _ p1, ⟨x', ?_, ?_⟩, ?_⟩, hB1, ?_⟩
  · rw [set_cells11 hB1 2 _]; rfl
  · refine ownsRow_setCell_other ho ?_ _
    intro e
    have := (ho.lt B e).1
    omega
  · exact (bel.trans (hb1.mono (by omega))).setCell (p := ⟨B, 2, none⟩) (by show w0.heap.size ≤ B; omega) _
  · intro k o y hkB hkx hy
    rw [World.cell?_setCell_other _ _ _ _ (two_far (fun e => hkB e.symm))]
    exact (World.cell?_of_block (a := ⟨k, o, none⟩) (hg.block k (World.block_lt_of_cell? (a := ⟨k, o, none⟩) W hy) (fun e => hkx e.symm))).trans hy
theorem Way.c2 {w : World} {B : Nat} {a b x : Value} (h : w.heap[B]? = some (.cells #[a, b, x] 146 (0, 0))) : w.cell? ⟨B, 2, none⟩ = some x := by rw [Joins.cell_of_block h]; rfl
theorem Way.f2 {w : World} {B : Nat} {a b x : Value} (h : w.heap[B]? = some (.cells #[a, b, x] 146 (0, 0))) (o : Nat) : w.frozen? ⟨B, o, none⟩ = false := by simp [World.frozen?, h]

set_option maxHeartbeats 400000 in
theorem cnew_bad (u v : Int) (wu : Word u) (wv : Word v) (hg : goodC u v = false) (w : World) :
    Calls Tryz.prog 51 #[.agg #[.int .u64 u, .int .u64 v]] w fun e w' => e = .returned (.tuple #[.pointer none, .int .i64 1]) ∧ Below w.heap.size w w' := by
  have HG := Lib.hid (fun W => cgood_any u v wu wv W)
  rw [hg] at HG
  clear hg
  go_enter Tryz.func51, Tryz.ntmps51
  go_wp2_with fail
  refine (HG.out _).mono ?_
  rintro e w2 ⟨rfl, hb2⟩
  go_wp2_with fail
  go_ret2
  exact ⟨rfl, ((Below.refl _ _).alloc (Nat.le_refl _) _).trans (hb2.mono (by simp))⟩

/-- What New tells of a closeness that can be. -/
def NewC (w : World) (u v : Int) (e : Ending) (w' : World) : Prop :=
  (∃ B S n, e = .returned (.tuple #[.pointer (some ⟨B, 0, none⟩), .int .i64 0]) ∧ TabX w' B S u v n ∧ (∀ k, S k → w.heap.size ≤ k) ∧ Below w.heap.size w w') ∨
  (e = .returned (.tuple #[.pointer none, .int .i64 6]) ∧ lowC u v 4096 ≤ 9223372036854775808 ∧ Below w.heap.size w w')
theorem way_done {w0 w : World} {u v : Int} {k B : Nat} (g : GoodC u v) (hk : k ≤ 4096) (hl : ∀ j, j < k → lowC u v j ≤ 9223372036854775808) (hn : ¬ lowC u v k ≤ 9223372036854775808) (hB : w0.heap.size + 1 ≤ B) (h : Way w0 w B u v (rowC u v k)) :
    ∃ S, TabX w B S u v k ∧ ∀ j, S j → w0.heap.size ≤ j := by
  have ht : TabN u v k := ⟨hl, by have := low_le u v k; omega⟩
  obtain ⟨_, _, ⟨x, hx, ho⟩, _⟩ := h
  obtain ⟨b, cap, rfl, hb⟩ := ho.some_ (by rw [rowC_len]; exact tab_pos ht)
  rw [rowC_len] at hx ho
  exact ⟨fun j => j = B ∨ j = b, ⟨g, ht, hk, b, cap, hx, by omega, ho, fun j => Iff.rfl⟩, fun j hj => by rcases hj with rfl | rfl <;> omega⟩
theorem new_two (w : World) (x y : Value) (t : TypeId) : (w.drew.alloc (.cells #[x, y] t)).cell? ⟨w.heap.size, 0, none⟩ = some x ∧ (w.drew.alloc (.cells #[x, y] t)).cell? ⟨w.heap.size, 1, none⟩ = some y := by
  have h : (w.drew.alloc (.cells #[x, y] t)).heap[w.heap.size]? = some (.cells #[x, y] t (0, 0)) := heap_alloc_new w.drew _
  exact ⟨by rw [Joins.cell_of_block h]; rfl, by rw [Joins.cell_of_block h]; rfl⟩

set_option maxRecDepth 100000 in
set_option maxHeartbeats 2000000 in
theorem cnew_good (u v : Int) (g : GoodC u v) (w : World) :
    Calls Tryz.prog 51 #[.agg #[.int .u64 u, .int .u64 v]] w (NewC w u v) := by
  have HG : Hid (GoodC u v) := Lib.hid g
  obtain ⟨g0, g1, g2⟩ := id g
  have HC := Lib.hid (fun W => cgood_any u v (by unfold Word; omega) (by unfold Word; omega) W)
  rw [goodC_iff.2 g] at HC
  clear g
  go_enter Tryz.func51, Tryz.ntmps51
  go_wp2_with fail
  refine (HC.out _).mono ?_
  rintro e w2 ⟨rfl, hb2⟩
  have hz2 : w.heap.size + 1 ≤ w2.heap.size := by have := hb2.size; simp at this; omega
  obtain ⟨bc, bf⟩ := bcell hb2
  go_wp2_with fail
  have W0 : Way w (w2.alloc (.cells #[.int .u64 u, .int .u64 v, .slice none 0 0] 146)) w2.heap.size u v (rowC u v 0) :=
    ⟨cell_later ((Below.refl _ _).alloc (Nat.le_refl _) _) (cell_later hb2 (by go_simp)), cell_later ((Below.refl _ _).alloc (Nat.le_refl _) _) (cell_later hb2 (by go_simp)), ⟨_, heap_alloc_new _ _, OwnR.nil _ _⟩, (((Below.refl _ _).alloc (Nat.le_refl _) _).trans (hb2.mono (by simp))).alloc (by omega) _⟩
  clear bc bf hb2
  generalize w2.heap.size = B at *
  generalize w2.alloc (.cells #[.int .u64 u, .int .u64 v, .slice none 0 0] 146) = w3 at *
  go_loopw [5] (fun s wr => ∃ k : Nat, k ≤ 4096 ∧ s = .int .u64 (lowC u v k) ∧ (∀ j, j < k → lowC u v j ≤ 9223372036854775808) ∧ Way w wr B u v (rowC u v k)) (fun s _ => (9223372036854775810 - intOf s).toNat)
  case atStart => exact ⟨0, by omega, rfl, fun j hj => absurd hj (Nat.not_lt_zero _), W0⟩
  case round =>
    clear W0
    obtain ⟨k, hk, rfl, hl, hw⟩ := hrel
    have HL := Lib.hid hl
    have HW := Lib.hid hw
    clear hl hw
    have l0 := low_pos HG.out k
    have HS := Lib.hid (fun h => clow_step HG.out (k := k) h)
    have HU := Lib.hid (low_succ u v k)
    have HK : Hid (¬ lowC u v k ≤ 9223372036854775808 → ∃ S, TabX wr B S u v k ∧ ∀ j, S j → w.heap.size ≤ j) := Lib.hid fun h => way_done HG.out hk HL.out h hz2 HW.out
    have HF : Hid (k = 4096 → lowC u v k = lowC u v 4096) := Lib.hid fun h => by rw [h]
    generalize hlo : lowC u v k = lo at *
    have HLO := Lib.hid hlo
    by_cases hle : lo ≤ 9223372036854775808
    · obtain ⟨p0, p1, ⟨x, hx, ho⟩, bel⟩ := id HW.out
      obtain ⟨A, cap, rfl⟩ := ho.form
      rw [rowC_len] at hx ho
      have c2 := Way.c2 hx
      have HX := Lib.hid hx
      have HO := Lib.hid ho
      clear hx ho hlo
      by_cases hf : k = 4096
      · have HF2 := Lib.hid (HF.out hf)
        subst hf
        go_wp2_with fail
        go_ret2
        refine Or.inr ⟨rfl, ?_, bel⟩
        have := HF2.out
        omega
      · have e1 : ((k : Int) == 4096) = false := by simp; omega
        obtain ⟨E, hE⟩ : ∃ E, endC u v lo = E := ⟨_, rfl⟩
        obtain ⟨R, hR⟩ : ∃ R, repC u v lo = R := ⟨_, rfl⟩
        have E0 : lo ≤ E := by rw [← hE]; exact cend_ge HG.out l0 hle
        have E1 : E ≤ 9223372036854775808 := by rw [← hE]; exact end_le u v lo
        have HFR : Hid (∀ W, Calls Tryz.prog 75 #[.int .u64 lo, .agg #[.int .u64 u, .int .u64 v]] W fun e w' => e = .returned (.agg #[.int .u64 E, .int .u64 R]) ∧ Below W.heap.size W w') := Lib.hid fun W => from_any u v lo E R HG.out l0 hle hE hR W
        have HE := Lib.hid hE
        have HR := Lib.hid hR
        clear hE hR
        go_wp2_with fail
        refine (HFR.out _).mono ?_
        rintro e w4 ⟨rfl, hb4⟩
        have HW4 := Lib.hid (HW.out.call hb4)
        have hx4 := (hb4.block B (lt_of_block HX.out)).trans HX.out
        have hz4 := hb4.size
        have hB4 := lt_of_block HX.out
        have ho4 := HO.out.call hb4
        have hW5 : Below w4.heap.size w4 (w4.alloc (.cells #[.int .u64 E, .int .u64 R] 148)) := (Below.refl _ _).alloc (Nat.le_refl _) _
        obtain ⟨e0, e1c⟩ := (Two.new w4 (.int .u64 E) (.int .u64 R) 148 : Two _ _ _ _)
        have f0 := e0
        have hC : (Value.slice A k cap).ownBlock ≠ some w4.heap.size := fun e => by have := (ho4.lt _ e).2; omega
        have hCB : w4.heap.size ≠ B := by omega
        go_upto_region 9 with fail
        have hx5 := (hW5.block B (by omega)).trans hx4
        have ho5 := ho4.call hW5
        have HW5 := Lib.hid (HW4.out.call hW5)
        have hz5 := hW5.size
        have hB5 : B + 1 ≤ (w4.alloc (.cells #[.int .u64 E, .int .u64 R] 148)).heap.size := by omega
        clear hW5 hx4 ho4 HW4 hb4 hB4 f0
        generalize w4.alloc (.cells #[.int .u64 E, .int .u64 R] 148) = W at *
        generalize w4.heap.size = C at *
        have c25 := Way.c2 hx5
        have HO5 : Hid (∀ o, OwnR (W.drew.alloc o) (B + 1) (.slice A k cap) (rowC u v k)) := Lib.hid fun o => ho5.call ((Below.refl _ _).drew.alloc (Nat.le_refl _) _)
        have HBS : Hid (∀ o, B + 1 ≤ (W.drew.alloc o).heap.size) := Lib.hid fun o => by rw [World.size_alloc]; show B + 1 ≤ W.heap.size + 1; omega
        have HKL : Hid ((rowC u v k).length ≤ 100000) := Lib.hid (by rw [rowC_len]; omega)
        have HP : Hid (∀ (o : Obj) (x' : Value) (w1 : World), OwnR w1 (B + 1) x' (rowC u v k ++ [(E, R)]) → (W.drew.alloc o).grownBy w1 (Value.slice A k cap).ownBlock → ∃ A' c', x' = .slice A' (k + 1) c' ∧
            Way w (w1.setCell ⟨B, 2, none⟩ (.slice A' (k + 1) c')) B u v (rowC u v (k + 1)) ∧ w1.cell? ⟨B, 2, none⟩ = some (.slice A k cap) ∧ w1.frozen? ⟨B, 2, none⟩ = false ∧ (w1.setCell ⟨B, 2, none⟩ (.slice A' (k + 1) c')).cell? ⟨C, 0, none⟩ = some (.int .u64 E)) := Lib.hid fun o x' w1 h1 h2 => by
          have e : rowC u v k ++ [(E, R)] = rowC u v (k + 1) := by rw [rowC_succ, ← HE.out, ← HR.out, HLO.out]
          rw [e] at h1
          obtain ⟨A', c', rfl⟩ := h1.form
          rw [rowC_len] at h1 ⊢
          obtain ⟨P1, P2, P3⟩ := Way.put HW5.out hx5 hz2 ((Below.refl _ _).drew.alloc (Nat.le_refl _) o) (HO5.out o) h1 h2
          exact ⟨A', c', rfl, P1, Way.c2 P2, Way.f2 P2 2, P3 C 0 _ hCB hC (cell_later ((Below.refl _ _).drew.alloc (Nat.le_refl _) o) e0)⟩
        have c26 : ∀ o, (W.alloc o).cell? ⟨B, 2, none⟩ = some (.slice A k cap) := fun o => cell_later ((Below.refl _ _).alloc (Nat.le_refl _) o) c25
        have e06 : ∀ o, (W.alloc o).cell? ⟨C, 0, none⟩ = some (.int .u64 E) := fun o => cell_later ((Below.refl _ _).alloc (Nat.le_refl _) o) e0
        clear ho5 hx5
        go_region_law (refine step_append_cell rfl (.tmp 28) (.tmp 30) rfl (B + 1) _ (rowC u v k) W.heap.size (E, R) rfl (HO5.out _) rfl (new_two W _ _ _).1 (new_two W _ _ _).2 HKL.out (HBS.out _) ?_; intro x' w1 ho' hg'; obtain ⟨A', c', rfl, P1, P2, P3, P4⟩ := HP.out _ _ _ ho' hg'; have HP1 := Lib.hid P1; clear P1 ho' hg')
        all_goals
          go_wp2_with fail
          go_roundw
          case rel => exact ⟨k + 1, by omega, by rw [HU.out, HE.out], fun j hj => by
            by_cases e : j = k
            · subst e; have := HLO.out; omega
            · exact HL.out j (by omega), HP1.out⟩
          case measure => simp [intOf]; omega
    · go_wp2_with fail
      go_ret2
      obtain ⟨S, h1, h2⟩ := HK.out hle
      exact Or.inl ⟨B, S, k, rfl, h1, h2, HW.out.bel⟩
end Go.Proofs.YtdpimbepafgapaaGreat

/-
  What package bins is to do, told as properties of its calls; a partition in memory; the laws' alive and empty.
-/
namespace Go.Proofs.YtdpimbepafgapaaGreat
set_option linter.unusedVariables false
set_option linter.unusedSimpArgs false
open Go.RowKit

/-- A partition in memory, as an interface's value; R are its blocks. -/
def PtX (w : World) (V : Value) (R : Nat → Prop) : Pt → Prop
  | .cells u v n => ∃ B, V = .iface 103 (.pointer (some ⟨B, 0, none⟩)) ∧ TabX w B R u v n
  | .spans d L T => False
theorem ptx_ok {w : World} {V : Value} {R : Nat → Prop} {P : Pt} (h : PtX w V R P) : P.ok := by
  cases P with
  | cells u v n => obtain ⟨B, _, h⟩ := h; exact ⟨h.1, h.2.1, h.2.2.1⟩
  | spans d L T => exact False.elim h
theorem ptx_keep {w w' : World} {V : Value} {R : Nat → Prop} {P : Pt} (h : PtX w V R P) (hk : ∀ k, R k → w'.heap[k]? = w.heap[k]?) : PtX w' V R P := by
  cases P with
  | cells u v n => obtain ⟨B, e, h⟩ := h; exact ⟨B, e, tabx_keep h hk⟩
  | spans d L T => exact False.elim h
theorem ptx_lt {w : World} {V : Value} {R : Nat → Prop} {P : Pt} (h : PtX w V R P) : ∀ k, R k → k < w.heap.size := by
  cases P with
  | cells u v n => obtain ⟨B, e, h⟩ := h; exact tabx_lt h
  | spans d L T => exact False.elim h
theorem ptx_call {w w' : World} {V : Value} {R : Nat → Prop} {P : Pt} (h : PtX w V R P) (hb : Below w.heap.size w w') : PtX w' V R P := ptx_keep h fun k hk => hb.block k (ptx_lt h k hk)

/-- What bins that can be hold. -/
def KeptP (s : Bool) (m : Int) (K : List PairV) (T : Int) : Prop := if s = true then Hgp m K T else Lwp m K T
structure StOk (s : Bool) (m : Int) (st : St) : Prop where
  k1 : KeptP s m st.k1 st.t1
  k2 : KeptP s m st.k2 st.t2
  z : 0 ≤ st.z
  all : st.all ≤ 9223372036854775807
/-- What is loaded: rows below 0 and above it, how many of each are lost, noughts. -/
def fitsSt (P : Pt) (s : Bool) (m : Int) (L1 : List PairV) (l1 : Int) (L2 : List PairV) (l2 z : Int) : Bool :=
  (L1.all fun p => decide (0 ≤ p.1) && !(P.rep p.1 == 0)) && (L2.all fun p => decide (0 ≤ p.1) && !(P.rep p.1 == 0)) && loadB m L1 l1 && loadB m L2 l2 && decide (sumP L1 + l1 + (sumP L2 + l2) + z ≤ 9223372036854775807)
def loadSt (L1 : List PairV) (l1 : Int) (L2 : List PairV) (l2 z : Int) : St := ⟨L1, sumP L1 + l1, L2, sumP L2 + l2, z⟩
def binErr (st : St) (c : Int) : Int := lwErr st.all c
def binSt (P : Pt) (s : Bool) (m : Int) (st : St) (x c : Int) : St := if binErr st c = 0 then addSt P s m st x c else st

/-- Bn w B S R P s m st: at block B lie bins of a partition P (its blocks: R), that keep m parts on a side, and hold st; S are the blocks of their own. -/
structure BinsDoes (Bn : World → Nat → (Nat → Prop) → (Nat → Prop) → Pt → Bool → Int → St → Prop) : Prop where
  keep : ∀ (w w' : World) (B : Nat) (S R : Nat → Prop) (P : Pt) (s : Bool) (m : Int) (st : St), Bn w B S R P s m st → (∀ k, S k ∨ R k → w'.heap[k]? = w.heap[k]?) → Bn w' B S R P s m st
  lt : ∀ (w : World) (B : Nat) (S R : Nat → Prop) (P : Pt) (s : Bool) (m : Int) (st : St), Bn w B S R P s m st → ∀ k, S k ∨ R k → k < w.heap.size
  ok : ∀ (w : World) (B : Nat) (S R : Nat → Prop) (P : Pt) (s : Bool) (m : Int) (st : St), Bn w B S R P s m st → P.ok ∧ StOk s m st ∧ ∀ k, S k → ¬ R k
  new : ∀ (w : World) (V : Value) (R : Nat → Prop) (P : Pt) (s : Bool) (m : Int), PtX w V R P → 1 ≤ m → m ≤ 4096 → Calls Tryz.prog 52 #[V, .int .i64 (sideI s), .int .i64 m] w fun e w' => ∃ B S, e = .returned (.tuple #[.pointer (some ⟨B, 0, none⟩), .int .i64 0]) ∧ Bn w' B S R P s m stNil ∧ (∀ k, S k → w.heap.size ≤ k) ∧ Below w.heap.size w w'
  bad : ∀ (w : World) (V : Value) (R : Nat → Prop) (P : Pt) (sd m : Int), PtX w V R P → I64 sd → I64 m → (sd < 0 ∨ 1 < sd ∨ m < 1 ∨ 4096 < m) → Calls Tryz.prog 52 #[V, .int .i64 sd, .int .i64 m] w fun e w' => e = .returned (.tuple #[.pointer none, .int .i64 1]) ∧ Below w.heap.size w w'
  nop : ∀ (w : World) (sd m : Int), I64 sd → I64 m → Calls Tryz.prog 52 #[.nilIface, .int .i64 sd, .int .i64 m] w fun e w' => e = .returned (.tuple #[.pointer none, .int .i64 1]) ∧ Below w.heap.size w w'
  add : ∀ (w : World) (B : Nat) (S R : Nat → Prop) (P : Pt) (s : Bool) (m : Int) (st : St) (x c : Int), Bn w B S R P s m st → st.k1.length ≤ 500 → st.k2.length ≤ 500 → I64 x → Word c →
    Calls Tryz.prog 50 #[.pointer (some ⟨B, 0, none⟩), .int .i64 x, .int .u64 c] w fun e w' => ∃ S', e = .returned (.int .i64 (binErr st c)) ∧ Bn w' B S' R P s m (binSt P s m st x c) ∧ Keeps S w w' ∧ (∀ k, S' k → S k ∨ w.heap.size ≤ k)
  find : ∀ (w : World) (B : Nat) (S R : Nat → Prop) (P : Pt) (s : Bool) (m : Int) (st : St) (t : Int), Bn w B S R P s m st → st.k1.length ≤ 500 → st.k2.length ≤ 500 → Word t →
    Calls Tryz.prog 37 #[.pointer (some ⟨B, 0, none⟩), .int .u64 t] w fun e w' => e = .returned (.tuple #[.int .i64 ((findSt P s st t).getD 0), .bool (findSt P s st t).isSome]) ∧ Below w.heap.size w w'
  total : ∀ (w : World) (B : Nat) (S R : Nat → Prop) (P : Pt) (s : Bool) (m : Int) (st : St), Bn w B S R P s m st → st.k1.length ≤ 500 → st.k2.length ≤ 500 →
    Calls Tryz.prog 31 #[.pointer (some ⟨B, 0, none⟩)] w fun e w' => e = .returned (.int .u64 st.all) ∧ Below w.heap.size w w'
  lost : ∀ (w : World) (B : Nat) (S R : Nat → Prop) (P : Pt) (s : Bool) (m : Int) (st : St), Bn w B S R P s m st →
    Calls Tryz.prog 33 #[.pointer (some ⟨B, 0, none⟩)] w fun e w' => e = .returned (.tuple #[.int .u64 (st.t1 - sumP st.k1), .int .u64 (st.t2 - sumP st.k2)]) ∧ Below w.heap.size w w'
  zero : ∀ (w : World) (B : Nat) (S R : Nat → Prop) (P : Pt) (s : Bool) (m : Int) (st : St), Bn w B S R P s m st →
    Calls Tryz.prog 54 #[.pointer (some ⟨B, 0, none⟩)] w fun e w' => e = .returned (.int .u64 st.z) ∧ Below w.heap.size w w'
  rows : ∀ (w : World) (B : Nat) (S R : Nat → Prop) (P : Pt) (s : Bool) (m : Int) (st : St), Bn w B S R P s m st → st.k1.length ≤ 500 → st.k2.length ≤ 500 →
    Calls Tryz.prog 32 #[.pointer (some ⟨B, 0, none⟩)] w fun e w' => ∃ v1 v2, e = .returned (.tuple #[v1, v2]) ∧ OwnP w' w.heap.size v1 st.k1 ∧ OwnP w' w.heap.size v2 st.k2 ∧ Below w.heap.size w w'
  most : ∀ (w : World) (B : Nat) (S R : Nat → Prop) (P : Pt) (s : Bool) (m : Int) (st : St), Bn w B S R P s m st →
    Calls Tryz.prog 88 #[.pointer (some ⟨B, 0, none⟩)] w fun e w' => e = .returned (.int .i64 m) ∧ Below w.heap.size w w'
  like : ∀ (w : World) (B : Nat) (S R : Nat → Prop) (P : Pt) (s : Bool) (m : Int) (st : St) (B' : Nat) (S' R' : Nat → Prop) (P' : Pt) (s' : Bool) (m' : Int) (st' : St) (b : Bool), Bn w B S R P s m st → Bn w B' S' R' P' s' m' st' → decide (s = s' ∧ m = m') = b →
    Calls Tryz.prog 69 #[.pointer (some ⟨B, 0, none⟩), .pointer (some ⟨B', 0, none⟩)] w fun e w' => e = .returned (.bool b) ∧ Below w.heap.size w w'
  merge : ∀ (w : World) (B : Nat) (S R : Nat → Prop) (P : Pt) (s : Bool) (m : Int) (st : St) (B' : Nat) (S' R' : Nat → Prop) (st' : St), Bn w B S R P s m st → Bn w B' S' R' P s m st' → (∀ k, S k → ¬ S' k ∧ ¬ R' k) → st.k1.length ≤ 200 → st.k2.length ≤ 200 → st'.k1.length ≤ 200 → st'.k2.length ≤ 200 → st.all + st'.all ≤ 9223372036854775807 →
    Calls Tryz.prog 47 #[.pointer (some ⟨B, 0, none⟩), .pointer (some ⟨B', 0, none⟩)] w fun e w' => ∃ S2, e = .returned (.int .i64 0) ∧ Bn w' B S2 R P s m (mergeSt s m st st') ∧ Keeps S w w' ∧ (∀ k, S2 k → S k ∨ w.heap.size ≤ k)
  other : ∀ (w : World) (B : Nat) (S R : Nat → Prop) (P : Pt) (s : Bool) (m : Int) (st : St) (B' : Nat) (S' R' : Nat → Prop) (P' : Pt) (s' : Bool) (m' : Int) (st' : St), Bn w B S R P s m st → Bn w B' S' R' P' s' m' st' → (s ≠ s' ∨ m ≠ m') →
    Calls Tryz.prog 47 #[.pointer (some ⟨B, 0, none⟩), .pointer (some ⟨B', 0, none⟩)] w fun e w' => e = .returned (.int .i64 8) ∧ Below w.heap.size w w'
  load : ∀ (w : World) (B : Nat) (S R : Nat → Prop) (P : Pt) (s : Bool) (m : Int) (st : St) (a1 a2 : Option Addr) (c1 c2 : Nat) (L1 L2 : List PairV) (l1 l2 z : Int), Bn w B S R P s m st → Pairs w a1 L1 → Pairs w a2 L2 → L1.length ≤ 200 → L2.length ≤ 200 → Word l1 → Word l2 → Word z → fitsSt P s m L1 l1 L2 l2 z = true →
    Calls Tryz.prog 49 #[.pointer (some ⟨B, 0, none⟩), .agg #[.slice a1 L1.length c1, .slice a2 L2.length c2], .agg #[.int .u64 l1, .int .u64 l2], .int .u64 z] w fun e w' => ∃ S', e = .returned (.int .i64 0) ∧ Bn w' B S' R P s m (loadSt L1 l1 L2 l2 z) ∧ Keeps S w w' ∧ (∀ k, S' k → S k ∨ w.heap.size ≤ k)
  unfit : ∀ (w : World) (B : Nat) (S R : Nat → Prop) (P : Pt) (s : Bool) (m : Int) (st : St) (a1 a2 : Option Addr) (c1 c2 : Nat) (L1 L2 : List PairV) (l1 l2 z : Int), Bn w B S R P s m st → Pairs w a1 L1 → Pairs w a2 L2 → L1.length ≤ 200 → L2.length ≤ 200 → Word l1 → Word l2 → Word z → fitsSt P s m L1 l1 L2 l2 z = false →
    Calls Tryz.prog 49 #[.pointer (some ⟨B, 0, none⟩), .agg #[.slice a1 L1.length c1, .slice a2 L2.length c2], .agg #[.int .u64 l1, .int .u64 l2], .int .u64 z] w fun e w' => e = .returned (.int .i64 1) ∧ Below w.heap.size w w'
theorem BinsDoes.call {Bn : World → Nat → (Nat → Prop) → (Nat → Prop) → Pt → Bool → Int → St → Prop} (D : BinsDoes Bn) {w w' : World} {B : Nat} {S R : Nat → Prop} {P : Pt} {s : Bool} {m : Int} {st : St} (h : Bn w B S R P s m st) (hb : Below w.heap.size w w') : Bn w' B S R P s m st :=
  D.keep w w' B S R P s m st h fun k hk => hb.block k (D.lt _ _ _ _ _ _ _ _ h k hk)
theorem BinsDoes.past {Bn : World → Nat → (Nat → Prop) → (Nat → Prop) → Pt → Bool → Int → St → Prop} (D : BinsDoes Bn) {w w' : World} {B : Nat} {S R S0 : Nat → Prop} {P : Pt} {s : Bool} {m : Int} {st : St} (h : Bn w B S R P s m st) (hk : Keeps S0 w w') (hS : ∀ k, S k ∨ R k → ¬ S0 k) : Bn w' B S R P s m st :=
  D.keep w w' B S R P s m st h fun k hk' => hk.block k (D.lt _ _ _ _ _ _ _ _ h k hk') (hS k hk')

/-- Nil bins. -/
structure BinsNil : Prop where
  add : ∀ (w : World) (x c : Int), I64 x → Word c → Calls Tryz.prog 50 #[.pointer none, .int .i64 x, .int .u64 c] w fun e w' => e = .returned (.int .i64 2) ∧ Below w.heap.size w w'
  find : ∀ (w : World) (t : Int), Word t → Calls Tryz.prog 37 #[.pointer none, .int .u64 t] w fun e w' => e = .returned (.tuple #[.int .i64 0, .bool false]) ∧ Below w.heap.size w w'
  total : ∀ (w : World), Calls Tryz.prog 31 #[.pointer none] w fun e w' => e = .returned (.int .u64 0) ∧ Below w.heap.size w w'
  zero : ∀ (w : World), Calls Tryz.prog 54 #[.pointer none] w fun e w' => e = .returned (.int .u64 0) ∧ Below w.heap.size w w'
  most : ∀ (w : World), Calls Tryz.prog 88 #[.pointer none] w fun e w' => e = .returned (.int .i64 0) ∧ Below w.heap.size w w'
  like : ∀ (w : World), Calls Tryz.prog 69 #[.pointer none, .pointer none] w fun e w' => e = .returned (.bool false) ∧ Below w.heap.size w w'
  merge : ∀ (w : World), Calls Tryz.prog 47 #[.pointer none, .pointer none] w fun e w' => e = .returned (.int .i64 2) ∧ Below w.heap.size w w'
  load : ∀ (w : World), Calls Tryz.prog 49 #[.pointer none, .agg #[.slice none 0 0, .slice none 0 0], .agg #[.int .u64 0, .int .u64 0], .int .u64 0] w fun e w' => e = .returned (.int .i64 2) ∧ Below w.heap.size w w'
end Go.Proofs.YtdpimbepafgapaaGreat

/-
  Walk: the landed code of runs: Find; the library's cmp.Compare and slices.BinarySearchFunc at rows of pairs.
  Walk: the landed code of runs: the pair behind a row.
  Walk: the landed code of runs: Add.
-/
namespace Go.Proofs.YtdpimbepafgapaaGreat
set_option linter.unusedVariables false
set_option linter.unusedSimpArgs false
open Go.RowKit

def cmpI (x y : Int) : Int := if x < y then -1 else if y < x then 1 else 0
theorem cmpI_neg {x y : Int} : cmpI x y < 0 ↔ x < y := by unfold cmpI; split <;> (try split) <;> omega
theorem cmpI_zero {x y : Int} : cmpI x y = 0 ↔ x = y := by unfold cmpI; split <;> (try split) <;> omega

set_option maxHeartbeats 400000 in
theorem nan_any (x : Int) (w : World) : Calls Tryz.prog 141 #[.int .i64 x] w fun e w' => e = .returned (.bool false) ∧ w = w' := by
  have e1 : (!(x == x)) = false := by simp
  go_enter Tryz.func141, Tryz.ntmps141
  go_wp2_with fail
  go_ret
  exact ⟨by simp, rfl⟩

set_option maxHeartbeats 400000 in
theorem compare_int (x y : Int) (w : World) : Calls Tryz.prog 139 #[.int .i64 x, .int .i64 y] w fun e w' => e = .returned (.int .i64 (cmpI x y)) ∧ w = w' := by
  have HN := Lib.hid nan_any
  obtain ⟨r, hr⟩ : ∃ r, cmpI x y = r := ⟨_, rfl⟩
  have HR := Lib.hid hr
  rw [hr]
  clear hr
  by_cases h1 : x < y
  · have HE : Hid (-1 = r) := Lib.hid (by rw [← HR.out]; unfold cmpI; rw [if_pos h1])
    go_enter Tryz.func139, Tryz.ntmps139
    go_wp2_with (go_at_call 141; refine (HN.out _ _).mono ?_; rintro e w' ⟨rfl, rfl⟩)
    go_ret
    exact ⟨ret_int HE.out, rfl⟩
  · by_cases h2 : y < x
    · have HE : Hid (1 = r) := Lib.hid (by rw [← HR.out]; unfold cmpI; rw [if_neg h1, if_pos h2])
      go_enter Tryz.func139, Tryz.ntmps139
      go_wp2_with (go_at_call 141; refine (HN.out _ _).mono ?_; rintro e w' ⟨rfl, rfl⟩)
      go_ret
      exact ⟨ret_int HE.out, rfl⟩
    · have HE : Hid (0 = r) := Lib.hid (by rw [← HR.out]; unfold cmpI; rw [if_neg h1, if_neg h2])
      go_enter Tryz.func139, Tryz.ntmps139
      go_wp2_with (go_at_call 141; refine (HN.out _ _).mono ?_; rintro e w' ⟨rfl, rfl⟩)
      go_ret
      exact ⟨ret_int HE.out, rfl⟩

set_option maxHeartbeats 400000 in
theorem find_cmp (px pc i r : Int) (hr : cmpI px i = r) (w : World) : Calls Tryz.prog 138 #[.agg #[.int .i64 px, .int .u64 pc], .int .i64 i] w fun e w' => e = .returned (.int .i64 r) ∧ Below w.heap.size w w' := by
  subst hr
  obtain ⟨r, hr⟩ : ∃ r, cmpI px i = r := ⟨_, rfl⟩
  have HC := Lib.hid (fun W => hr ▸ compare_int px i W)
  rw [hr]
  clear hr
  go_enter Tryz.func138, Tryz.ntmps138
  go_wp2_with fail
  refine (HC.out _).mono ?_
  rintro e w' ⟨rfl, rfl⟩
  go_wp2_with fail
  go_ret
  exact ⟨rfl, (Below.refl _ _).alloc (Nat.le_refl _) _⟩

/-- The place of an index: those ahead are less, those from there on aren't. -/
theorem low_at {L : List PairV} {i : Int} {lo : Nat} (hlo : lo ≤ L.length) (h1 : ∀ t p, t < lo → L[t]? = some p → p.1 < i) (h2 : ∀ t p, lo ≤ t → L[t]? = some p → i ≤ p.1) : lowP L i = L.take lo := by
  have e : lowP L i = lowP (L.take lo) i ++ lowP (L.drop lo) i := by unfold lowP; rw [← List.filter_append, List.take_append_drop]
  rw [e]
  have e1 : lowP (L.take lo) i = L.take lo := by
    unfold lowP; rw [List.filter_eq_self]
    intro p hp
    obtain ⟨t, ht, rfl⟩ := List.getElem_of_mem hp
    rw [List.length_take] at ht
    exact decide_eq_true (h1 t (L.take lo)[t] (by omega) (by rw [List.getElem_take]; exact List.getElem?_eq_getElem (by omega)))
  have e2 : lowP (L.drop lo) i = [] := by
    unfold lowP; rw [List.filter_eq_nil_iff]
    intro p hp
    obtain ⟨t, ht, rfl⟩ := List.getElem_of_mem hp
    rw [List.length_drop] at ht
    have := h2 (lo + t) (L.drop lo)[t] (by omega) (by rw [List.getElem_drop]; exact List.getElem?_eq_getElem (by omega))
    simp only [decide_eq_true_eq]; omega
  rw [e1, e2, List.append_nil]
theorem is_at {L : List PairV} {i : Int} {lo : Nat} (hg : GoodP L) (h1 : ∀ t p, t < lo → L[t]? = some p → p.1 < i) (h2 : ∀ t p, lo ≤ t → L[t]? = some p → i ≤ p.1) : isP L i = ((L[lo]?).map fun p => p.1 == i).getD false := by
  cases hx : L[lo]? with
  | none =>
    have hl : L.length ≤ lo := List.getElem?_eq_none_iff.1 hx
    show isP L i = false
    unfold isP; rw [List.any_eq_false]
    intro p hp
    obtain ⟨t, ht, rfl⟩ := List.getElem_of_mem hp
    have := h1 t _ (by omega) (List.getElem?_eq_getElem ht)
    simp; omega
  | some q =>
    show isP L i = (q.1 == i)
    by_cases hq : q.1 = i
    · rw [hq]
      have : isP L i = true := by unfold isP; rw [List.any_eq_true]; exact ⟨q, List.mem_of_getElem? hx, by simpa using hq⟩
      rw [this]; simp
    · have e : (q.1 == i) = false := by simpa using hq
      rw [e]; unfold isP; rw [List.any_eq_false]
      intro p hp
      obtain ⟨t, ht, rfl⟩ := List.getElem_of_mem hp
      have hqi := h2 lo q (Nat.le_refl _) hx
      rcases Nat.lt_trichotomy t lo with h | h | h
      · have := h1 t _ h (List.getElem?_eq_getElem ht); simp; omega
      · subst h; rw [List.getElem?_eq_getElem ht] at hx; rw [Option.some.inj hx]; simpa using hq
      · have hlo : lo < L.length := by omega
        have e2 := (List.pairwise_iff_getElem.1 hg.2) lo t hlo ht h
        rw [List.getElem?_eq_getElem hlo] at hx
        rw [Option.some.inj hx] at e2
        simp; omega

set_option maxRecDepth 100000 in
set_option maxHeartbeats 1000000 in
theorem search_any (w : World) (A : Option Addr) (cap : Nat) (L : List PairV) (i : Int) (n : Nat) (b : Bool) (h : Pairs w A L) (hl : L.length ≤ 100000) (hg : GoodP L) (hi : I64 i) (hn : (lowP L i).length = n) (hb : isP L i = b) :
    Calls Tryz.prog 137 #[.slice A L.length cap, .int .i64 i, .func (.func 138) #[] #[]] w fun e w' => e = .returned (.tuple #[.int .i64 n, .bool b]) ∧ Below w.heap.size w w' := by
  have HI := Lib.hid h
  have HN := Lib.hid hn
  have HB := Lib.hid hb
  have HG := Lib.hid hg
  have HS : Hid (∀ (a b : Nat) (p q : PairV), a ≤ b → L[a]? = some p → L[b]? = some q → p.1 ≤ q.1) := Lib.hid (by
    intro a b p q hab ha hb
    rcases Nat.lt_or_eq_of_le hab with h1 | h1
    · have hbl : b < L.length := by
        rcases Nat.lt_or_ge b L.length with h2 | h2
        · exact h2
        · rw [List.getElem?_eq_none h2] at hb; cases hb
      have e2 := (List.pairwise_iff_getElem.1 hg.2) a b (by omega) hbl h1
      rw [List.getElem?_eq_getElem (by omega)] at ha
      rw [List.getElem?_eq_getElem hbl] at hb
      rw [Option.some.inj ha, Option.some.inj hb] at e2
      omega
    · subst h1; rw [ha] at hb; rw [Option.some.inj hb]; exact Int.le_refl _)
  clear h hg hn hb
  have HF := Lib.hid find_cmp
  go_enter Tryz.func137, Tryz.ntmps137
  go_wp2_with fail
  go_loopw [9, 10] (fun a c wr => ∃ lo hi : Nat, a = .int .i64 lo ∧ c = .int .i64 hi ∧ lo ≤ hi ∧ hi ≤ L.length ∧ (∀ t p, t < lo → L[t]? = some p → p.1 < i) ∧ (∀ t p, hi ≤ t → L[t]? = some p → i ≤ p.1) ∧ Below w.heap.size w wr) (fun a c _ => (intOf c).toNat - (intOf a).toNat)
  case atStart => exact ⟨0, L.length, rfl, rfl, Nat.zero_le _, Nat.le_refl _, fun t p ht => absurd ht (Nat.not_lt_zero _), fun t p ht hp => (by rw [List.getElem?_eq_none ht] at hp; cases hp), Below.refl _ _⟩
  case round =>
    obtain ⟨lo, hi', rfl, rfl, hlh, hhi, h1, h2, hb2⟩ := hrel
    have H1 := Lib.hid h1
    have H2 := Lib.hid h2
    have hbs := hb2.size
    clear h1 h2
    by_cases hlt : (lo : Int) < (hi' : Int)
    · obtain ⟨m, hm⟩ : ∃ m : Nat, m = (lo + hi') / 2 := ⟨_, rfl⟩
      have hm1 : lo ≤ m := by omega
      have hm2 : m < hi' := by omega
      have hmi : ((lo : Int) + (hi' : Int)) / 2 = (m : Int) := by omega
      have mm : (m : Int) < L.length := by omega
      have mm' : m < L.length := by omega
      have hxm : L[m]? = some L[m] := List.getElem?_eq_getElem mm'
      generalize hit : L[m] = p at *
      obtain ⟨px, pc⟩ := p
      obtain ⟨b0, off, rfl, hbl, c0, c1⟩ := (HI.out.call hb2).at_ m _ hxm
      simp only at c0 c1
      have HXM := Lib.hid hxm
      clear hm hxm hit
      obtain ⟨r, hr⟩ : ∃ r, cmpI px i = r := ⟨_, rfl⟩
      have HR := Lib.hid hr
      by_cases hc : px < i
      · have hr0 : r < 0 := by rw [← hr]; exact cmpI_neg.2 hc
        clear hr
        go_wp2_with fail
        refine (HF.out px pc i r HR.out _).mono ?_
        rintro e w1 ⟨rfl, hb3⟩
        have hb4 := hb2.trans (hb3.mono hbs)
        clear hb3 c0 c1
        go_wp2_with fail
        go_roundw
        case rel => exact ⟨m + 1, hi', by go_num, rfl, by omega, hhi, fun t p ht hp => (by have h5 := HS.out t m p _ (by omega) hp HXM.out; simp only at h5; omega), H2.out, hb4⟩
        case measure => simp [intOf]; omega
      · have hr0 : ¬ r < 0 := by rw [← hr]; exact fun h => hc (cmpI_neg.1 h)
        clear hr
        go_wp2_with fail
        refine (HF.out px pc i r HR.out _).mono ?_
        rintro e w1 ⟨rfl, hb3⟩
        have hb4 := hb2.trans (hb3.mono hbs)
        clear hb3 c0 c1
        go_wp2_with fail
        go_roundw
        case rel => exact ⟨lo, m, rfl, by go_num, by omega, by omega, H1.out, fun t p ht hp => (by have h5 := HS.out m t _ p ht HXM.out hp; simp only at h5; omega), hb4⟩
        case measure => simp [intOf]; omega
    · obtain rfl : hi' = lo := by omega
      have HLO : Hid (hi' = n) := Lib.hid (by
        rw [← HN.out, low_at hhi H1.out H2.out, List.length_take]; omega)
      have HIS := Lib.hid (is_at HG.out H1.out H2.out)
      by_cases hl2 : hi' < L.length
      · have kk : (hi' : Int) < L.length := by omega
        have hxm : L[hi']? = some L[hi'] := List.getElem?_eq_getElem hl2
        generalize hit : L[hi'] = p at *
        obtain ⟨px, pc⟩ := p
        obtain ⟨b0, off, rfl, hbl, c0, c1⟩ := (HI.out.call hb2).at_ hi' _ hxm
        simp only at c0 c1
        have HE : Hid ((px == i) = b) := Lib.hid (by rw [← HB.out, HIS.out, hxm]; rfl)
        clear hxm hit
        obtain ⟨r, hr⟩ : ∃ r, cmpI px i = r := ⟨_, rfl⟩
        have HR := Lib.hid hr
        by_cases hc : px = i
        · have hr0 : r = 0 := by rw [← hr]; exact cmpI_zero.2 hc
          have HB1 : Hid (true = b) := Lib.hid (by rw [← HE.out]; simp [hc])
          have HC := Lib.hid hc
          subst hr0
          clear hr hc
          go_wp2_with fail
          refine (HF.out px pc i 0 HR.out _).mono ?_
          rintro e w1 ⟨rfl, hb3⟩
          have hb4 := hb2.trans (hb3.mono hbs)
          go_wp2_with fail
          go_ret2
          exact ⟨ret_pair (by rw [HLO.out]) HB1.out, hb4⟩
        · have hr0 : (r == 0) = false := by
            have : r ≠ 0 := by rw [← hr]; exact fun h => hc (cmpI_zero.1 h)
            simpa using this
          have HB1 : Hid (false = b) := Lib.hid (by rw [← HE.out]; simp [hc])
          clear hr hc
          go_wp2_with fail
          refine (HF.out px pc i r HR.out _).mono ?_
          rintro e w1 ⟨rfl, hb3⟩
          have hb4 := hb2.trans (hb3.mono hbs)
          go_wp2_with fail
          go_ret2
          exact ⟨ret_pair (by rw [HLO.out]) HB1.out, hb4⟩
      · have kk : ¬ (hi' : Int) < L.length := by omega
        have HB1 : Hid (false = b) := Lib.hid (by rw [← HB.out, HIS.out, List.getElem?_eq_none (by omega)]; rfl)
        go_wp2_with fail
        go_ret2
        exact ⟨ret_pair (by rw [HLO.out]) HB1.out, hb2⟩

set_option maxHeartbeats 400000 in
theorem find_big (w : World) (A : Option Addr) (cap : Nat) (L : List PairV) (i : Int) (n : Nat) (b : Bool) (h : Pairs w A L) (hl : L.length ≤ 100000) (hg : GoodP L) (hi : I64 i) (hn : (lowP L i).length = n) (hb : isP L i = b) :
    Calls Tryz.prog 132 #[.slice A L.length cap, .int .i64 i] w fun e w' => e = .returned (.tuple #[.int .i64 n, .bool b]) ∧ Below w.heap.size w w' := by
  have H := Lib.hid (search_any w A cap L i n b h hl hg hi hn hb)
  clear h hg hn hb
  go_enter Tryz.func132, Tryz.ntmps132
  go_wp2_with fail
  refine H.out.mono ?_
  rintro e w' ⟨rfl, hb⟩
  go_wp2_with fail
  go_ret2
  exact ⟨rfl, hb⟩
theorem find_does : FindDoes := fun w A cap L i n b h hl hg hi hn hb => find_big w A cap L i n b h (by omega) hg hi hn hb
end Go.Proofs.YtdpimbepafgapaaGreat

namespace Go.Proofs.YtdpimbepafgapaaGreat
set_option linter.unusedVariables false
set_option linter.unusedSimpArgs false
open Go.RowKit

theorem grown_alloc {a b : World} {r : Option Nat} (h : a.grownBy b r) (o : Obj) : a.grownBy (b.alloc o) r :=
  ⟨h.os, h.tape, h.output, Nat.le_trans h.size (by simp), fun i hi hr => (heap_alloc_old _ _ (Nat.lt_of_lt_of_le hi h.size)).trans (h.block i hi hr)⟩
theorem grown_own {a b c : World} {r r' : Option Nat} (h : a.grownBy b r) (k : b.grownBy c r') (hr : ∀ g, r' = some g → a.heap.size ≤ g) : a.grownBy c r :=
  ⟨k.os.trans h.os, k.tape.trans h.tape, k.output.trans h.output, Nat.le_trans h.size k.size, fun i hi hne => (k.block i (Nat.lt_of_lt_of_le hi h.size) (fun e => by have := hr i e.symm; omega)).trans (h.block i hi hne)⟩
theorem grown_call {a b c : World} {r : Option Nat} (h : a.grownBy b r) (k : Below b.heap.size b c) : a.grownBy c r :=
  ⟨k.os.trans h.os, k.tape.trans h.tape, k.output.trans h.output, Nat.le_trans h.size k.size, fun i hi hne => (k.block i (Nat.lt_of_lt_of_le hi h.size)).trans (h.block i hi hne)⟩
theorem grown_cell {a b : World} {B g o : Nat} {v : Value} (h : a.grownBy b (some B)) (hne : g ≠ B) (hc : a.cell? ⟨g, o, none⟩ = some v) : b.cell? ⟨g, o, none⟩ = some v := by
  have hlt := World.block_lt_of_cell? (a := ⟨g, o, none⟩) a hc
  exact (World.cell?_of_block (a := ⟨g, o, none⟩) (h.block g hlt (fun e => hne (Option.some.inj e)))).trans hc
theorem Eye.grown {w w' : World} {B : Nat} {s : ByteArray} {bad : Bool} {r : Option Nat} (h : Eye w B s bad) (hg : w.grownBy w' r) (hne : r ≠ some B) : Eye w' B s bad := by
  have hlt := h.two.lt
  have hb := hg.block B hlt (fun e => hne e.symm)
  exact ⟨⟨(World.cell?_of_block (a := ⟨B, 0, none⟩) hb).trans h.two.c0, (World.cell?_of_block (a := ⟨B, 1, none⟩) hb).trans h.two.c1, (World.frozen?_of_block (a := ⟨B, 0, none⟩) hb).trans h.two.f0, (World.frozen?_of_block (a := ⟨B, 1, none⟩) hb).trans h.two.f1⟩, h.non⟩
theorem Eye.lt {w : World} {B : Nat} {s : ByteArray} {bad : Bool} (h : Eye w B s bad) : B < w.heap.size := h.two.lt
theorem Eye.alloc {w : World} {B : Nat} {s : ByteArray} {bad : Bool} (h : Eye w B s bad) (o : Obj) : Eye (w.alloc o) B s bad := h.call ((Below.refl _ _).alloc (Nat.le_refl _) _)
theorem nS_le (s : ByteArray) (bad : Bool) (m : Nat) (n : Nat) (h : s.size ≤ n) : (nS s bad m).size ≤ n := Nat.le_trans (nS_size s bad m) h

/-- A result that lies in a cell of two. -/
theorem ret_agg {a b c d : Int} (h : a = c) (h' : b = d) : Ending.returned (.agg #[.int .i64 a, .int .u64 b]) = .returned (.agg #[.int .i64 c, .int .u64 d]) := by rw [h, h']

/-- The index so far behind one. -/
def nextI (q v : Int) : Int := (q + 1 + v + 9223372036854775808) % 18446744073709551616 - 9223372036854775808

end Go.Proofs.YtdpimbepafgapaaGreat

namespace Go.Proofs.YtdpimbepafgapaaGreat
set_option linter.unusedVariables false
set_option linter.unusedSimpArgs false
open Go.RowKit

theorem isP_app (A B : List PairV) (i : Int) : isP (A ++ B) i = (isP A i || isP B i) := by unfold isP; rw [List.any_append]
theorem isP_no {L : List PairV} {i : Int} (h : ∀ p, p ∈ L → p.1 ≠ i) : isP L i = false := by
  unfold isP; rw [List.any_eq_false]; intro p hp; simpa using h p hp
theorem is_part {L : List PairV} {i : Int} (h : isP (lowP L i) i = false ∧ isP (highP L i) i = false := ⟨isP_no fun p hp => by have := (lowP_mem hp).2; omega, isP_no fun p hp => by have := (highP_mem hp).2; omega⟩) : isP (lowP L i ++ highP L i) i = false ∧ ∀ m, isP (lowP L i ++ ((i, m) :: highP L i)) i = true := by
  refine ⟨by rw [isP_app, h.1, h.2]; rfl, fun m => ?_⟩
  rw [isP_app]; unfold isP; simp
theorem cellsQ_set (A B : List PairV) (i m m' : Int) : (cellsQ (A ++ (i, m) :: B)).set (A.length * 2 + 1) (.int .u64 m') = cellsQ (A ++ (i, m') :: B) := by
  rw [cellsQ_app, cellsQ_app, cellsQ_cons, cellsQ_cons, List.set_append_right _ _ (by rw [cellsQ_len]; omega), cellsQ_len]
  rw [show A.length * 2 + 1 - A.length * 2 = 1 by omega]
  rfl

set_option maxRecDepth 100000 in
set_option maxHeartbeats 1000000 in
theorem add_none_does (w : World) (base : Nat) (v : Value) (L : List PairV) (i : Int) (h : OwnP w base v L) (hg : GoodP L) :
    Calls Tryz.prog 133 #[v, .int .i64 i, .int .u64 0] w (Added w base v L i 0) := by
  have HO : Hid (OwnP w base v (addP L i 0)) := Lib.hid (by rw [add_none hg]; exact h)
  obtain ⟨A, cap, rfl⟩ := h.form
  clear h hg
  go_enter Tryz.func133, Tryz.ntmps133
  go_wp2_with fail
  go_ret
  exact ⟨_, rfl, HO.out, grown_refl _ _, Or.inl rfl⟩

set_option maxRecDepth 100000 in
set_option maxHeartbeats 1000000 in
theorem add_in_does (w : World) (base : Nat) (v : Value) (L : List PairV) (i c m : Int) (h : OwnP w base v L) (hb : base ≤ w.heap.size) (ok : ∀ p, p ∈ L → okP p) (hg : GoodP L) (hl : L.length ≤ 1000) (hi : I64 i) (hc : Word c) (c0 : 0 < c)
    (hm : countP L i = m) (hmc : m + c ≤ 9223372036854775807) (hp : lowP L i ++ ((i, m) :: highP L i) = L) (hm1 : 1 ≤ m) :
    Calls Tryz.prog 133 #[v, .int .i64 i, .int .u64 c] w (Added w base v L i c) := by
  obtain ⟨A, cap, rfl, hP⟩ := h.pairs ok
  obtain ⟨n, hn⟩ : ∃ n, (lowP L i).length = n := ⟨_, rfl⟩
  have his : isP L i = true := by rw [← hp]; exact (is_part (L := L)).2 m
  have hF := find_big w A cap L i n true hP (by omega) hg hi hn his
  have hxn : L[n]? = some (i, m) := by
    have : (lowP L i ++ ((i, m) :: highP L i))[n]? = some (i, m) := by rw [List.getElem?_append_right (by omega), hn, Nat.sub_self]; rfl
    rwa [hp] at this
  have hnl : n < L.length := by
    rcases Nat.lt_or_ge n L.length with h1 | h1
    · exact h1
    · rw [List.getElem?_eq_none h1] at hxn; cases hxn
  have h' : w.ownsRow base 114 2 (.slice A L.length cap) L.length (cellsQ L) := h
  obtain ⟨g, cap', e⟩ : ∃ g cap', (Value.slice A L.length cap) = .slice (some ⟨g, 0, none⟩) L.length cap' := by
    rcases h'.2 with ⟨e, e0⟩ | ⟨g, cap', cur, e, _⟩
    · omega
    · exact ⟨g, cap', e⟩
  injection e with e1 _ e3
  subst e1
  obtain ⟨b0, off, e4, hbl, d0, d1⟩ := hP.at_ n _ hxn
  obtain ⟨rfl, rfl⟩ : g = b0 ∧ 0 = off := by
    have := Option.some.inj e4
    exact ⟨(Addr.mk.inj this).1, (Addr.mk.inj this).2.1⟩
  simp only [Nat.zero_add] at d0 d1
  have hadd : addP L i c = lowP L i ++ ((i, m + c) :: highP L i) := by unfold addP; rw [hm]; unfold midP; rw [if_pos (by omega)]; rfl
  have HS : Hid (∀ w1, Below w.heap.size w w1 → OwnP (w1.setCell ⟨g, n * 2 + 1, none⟩ (.int .u64 (m + c))) base (.slice (some ⟨g, 0, none⟩) L.length cap) (addP L i c) ∧ w.grownBy (w1.setCell ⟨g, n * 2 + 1, none⟩ (.int .u64 (m + c))) (some g)) := Lib.hid fun w1 hb1 => by
    have h1 : w1.ownsRow base 114 2 (.slice (some ⟨g, 0, none⟩) L.length cap) L.length (cellsQ L) := h.call hb1
    obtain ⟨s1, s2⟩ := h1.stored (n * 2 + 1) (.int .u64 (m + c))
    refine ⟨?_, ?_⟩
    · unfold OwnP
      have e5 := cellsQ_set (lowP L i) (highP L i) i m (m + c)
      rw [hp, hn] at e5
      rw [e5] at s1
      have e6 : (addP L i c).length = L.length := by rw [hadd]; have := congrArg List.length hp; simp only [List.length_append, List.length_cons] at this ⊢; exact this
      rw [e6, hadd]
      exact s1
    · exact grown_trans (grown_call (grown_refl w _) hb1) s2
  have HF0 : Hid (∀ w1, Below w.heap.size w w1 → w1.frozen? ⟨g, n * 2 + 1, none⟩ = false) := Lib.hid fun w1 hb1 => by
    have h1 : w1.ownsRow base 114 2 (.slice (some ⟨g, 0, none⟩) L.length cap) L.length (cellsQ L) := h.call hb1
    exact h1.frozenAt _
  have hm64 : m < 18446744073709551616 := by omega
  have hmc2 : IntKind.u64.wrap (m + c) = m + c := by rw [IntKind.wrap_u64]; omega
  have cz : (c == 0) = false := by simp; omega
  have HFF := Lib.hid hF
  obtain ⟨hc1, hc2⟩ := hc
  have nn : (n : Int) < L.length := by omega
  clear hF hxn h h' hP e4 hadd hm hp hn his hg ok e3 d0
  go_enter Tryz.func133, Tryz.ntmps133
  go_wp2_with fail
  refine HFF.out.mono ?_
  rintro e w1 ⟨rfl, hb1⟩
  have d2 : w1.cell? ⟨g, n * 2 + 1, none⟩ = some (.int .u64 m) := cell_later hb1 d1
  have f2 := HF0.out _ hb1
  clear d1
  go_wp2_with fail
  go_ret
  obtain ⟨s1, s2⟩ := HS.out _ hb1
  exact ⟨_, rfl, s1, s2, Or.inl rfl⟩

/-- Concat of what stands ahead, one pair, and what stands behind. -/
theorem add_concat (w1 : World) (A1 A3 : Option Addr) (n cap l3 cap3 : Nat) (lo hi : List PairV) (i c : Int) (hlo : Pairs w1 A1 lo) (hn : lo.length = n) (hhi : Pairs w1 A3 hi) (hl : hi.length = l3) (hi' : I64 i) (hc : Word c) (b1 : n ≤ 10000) (b3 : l3 ≤ 10000) :
    Calls Tryz.prog 140 #[.slice (some ⟨w1.heap.size + 1, 0, none⟩) 3 3]
      ((w1.alloc (.cells #[.int .i64 i, .int .u64 c] 114)).alloc (.cells #[.slice A1 n cap, .slice (some ⟨w1.heap.size, 0, none⟩) 1 1, .slice A3 l3 cap3] 72)).drew
      fun e w' => ∃ v, e = .returned v ∧ OwnP w' w1.heap.size v (lo ++ ((i, c) :: hi)) ∧ Below w1.heap.size w1 w' := by
  subst hn hl
  have bA : Below w1.heap.size w1 ((w1.alloc (.cells #[.int .i64 i, .int .u64 c] 114)).alloc (.cells #[.slice A1 lo.length cap, .slice (some ⟨w1.heap.size, 0, none⟩) 1 1, .slice A3 hi.length cap3] 72)).drew := (((Below.refl _ _).alloc (Nat.le_refl _) _).alloc (by simp) _).drew
  obtain ⟨W, hW⟩ : ∃ W, ((w1.alloc (.cells #[.int .i64 i, .int .u64 c] 114)).alloc (.cells #[.slice A1 lo.length cap, .slice (some ⟨w1.heap.size, 0, none⟩) 1 1, .slice A3 hi.length cap3] 72)).drew = W := ⟨_, rfl⟩
  have h1 : W.heap[w1.heap.size]? = some (.cells #[.int .i64 i, .int .u64 c] 114 (0, 0)) := by
    rw [← hW]
    exact (heap_alloc_old _ _ (by simp)).trans (heap_alloc_new w1 _)
  have h2 : W.heap[w1.heap.size + 1]? = some (.cells #[.slice A1 lo.length cap, .slice (some ⟨w1.heap.size, 0, none⟩) 1 1, .slice A3 hi.length cap3] 72 (0, 0)) := by
    rw [← hW]
    have := heap_alloc_new (w1.alloc (.cells #[.int .i64 i, .int .u64 c] 114)) (.cells #[.slice A1 lo.length cap, .slice (some ⟨w1.heap.size, 0, none⟩) 1 1, .slice A3 hi.length cap3] 72)
    rw [World.size_alloc] at this
    exact this
  rw [hW] at bA ⊢
  have hone : Pairs W (some ⟨w1.heap.size, 0, none⟩) [(i, c)] := pairs_of_block h1 rfl (fun p hp => by simp at hp; subst hp; exact ⟨hi', hc⟩)
  have hR : Rows2 W (some ⟨w1.heap.size + 1, 0, none⟩) [⟨A1, cap, lo⟩, ⟨some ⟨w1.heap.size, 0, none⟩, 1, [(i, c)]⟩, ⟨A3, cap3, hi⟩] := by
    refine ⟨fun j r hj => ⟨w1.heap.size + 1, 0, rfl, lt_of_block h2, ?_⟩, fun r hr => ?_⟩
    · match j, hj with
      | 0, hj => simp at hj; subst hj; simp [World.cell?, h2]
      | 1, hj => simp at hj; subst hj; simp [World.cell?, h2]
      | 2, hj => simp at hj; subst hj; simp [World.cell?, h2]
      | k + 3, hj => simp at hj
    · simp only [List.mem_cons, List.not_mem_nil, or_false] at hr
      rcases hr with rfl | rfl | rfl
      · exact ⟨hlo.call bA, by simp only; omega⟩
      · exact ⟨hone, by simp⟩
      · exact ⟨hhi.call bA, by simp only; omega⟩
  have hall : allP [⟨A1, cap, lo⟩, ⟨some ⟨w1.heap.size, 0, none⟩, 1, [(i, c)]⟩, ⟨A3, cap3, hi⟩] = lo ++ ((i, c) :: hi) := by simp [allP]
  have hC := concat_any W _ 3 3 _ hR rfl (by omega) (by rw [hall, List.length_append, List.length_cons]; omega)
  rw [hall] at hC
  refine hC.mono ?_
  rintro e w' ⟨v, rfl, ho, hb⟩
  exact ⟨v, rfl, World.ownsRow.mono ho bA.size, bA.trans (hb.mono bA.size)⟩

theorem pairs_low {w : World} {A : Option Addr} {lo hi : List PairV} (h : Pairs w A (lo ++ hi)) : Pairs w A lo :=
  ⟨fun p hp => h.ok p (List.mem_append_left _ hp), fun j p hj => h.at_ j p (by
    have hl : j < lo.length := by
      rcases Nat.lt_or_ge j lo.length with h1 | h1
      · exact h1
      · rw [List.getElem?_eq_none h1] at hj; cases hj
    rw [List.getElem?_append_left hl]; exact hj)⟩
theorem pairs_high {w : World} {g : Nat} {lo hi : List PairV} (h : Pairs w (some ⟨g, 0, none⟩) (lo ++ hi)) (n : Nat) (hn : lo.length = n) : Pairs w (some ⟨g, n * 2, none⟩) hi :=
  ⟨fun p hp => h.ok p (List.mem_append_right _ hp), fun j p hj => by
    obtain ⟨b, off, e, hb, c0, c1⟩ := h.at_ (n + j) p (by rw [List.getElem?_append_right (by omega), hn, Nat.add_sub_cancel_left]; exact hj)
    obtain ⟨rfl, rfl⟩ : g = b ∧ 0 = off := by
      have := Option.some.inj e
      exact ⟨(Addr.mk.inj this).1, (Addr.mk.inj this).2.1⟩
    refine ⟨g, n * 2, rfl, hb, ?_, ?_⟩
    · rw [← c0]; congr 2; omega
    · rw [← c1]; congr 2; omega⟩

set_option maxRecDepth 100000 in
set_option maxHeartbeats 1000000 in
theorem add_new_does (w : World) (base : Nat) (v : Value) (L : List PairV) (i c : Int) (h : OwnP w base v L) (hb : base ≤ w.heap.size) (ok : ∀ p, p ∈ L → okP p) (hg : GoodP L) (hl : L.length ≤ 1000) (hi : I64 i) (hc : Word c) (c0 : 0 < c)
    (hm : countP L i = 0) (hp : lowP L i ++ highP L i = L) :
    Calls Tryz.prog 133 #[v, .int .i64 i, .int .u64 c] w (Added w base v L i c) := by
  obtain ⟨A, cap, rfl, hP⟩ := h.pairs ok
  obtain ⟨n, hn⟩ : ∃ n, (lowP L i).length = n := ⟨_, rfl⟩
  have hnl : n ≤ L.length := by rw [← hn]; exact List.length_filter_le _ _
  have his : isP L i = false := by rw [← hp]; exact (is_part (L := L)).1
  have hF := find_big w A cap L i n false hP (by omega) hg hi hn his
  have hh : (highP L i).length = L.length - n := by have := congrArg List.length hp; rw [List.length_append] at this; omega
  have cz : (c == 0) = false := by simp; omega
  have hcap : L.length ≤ cap := by
    rcases h.2 with ⟨e, e0⟩ | ⟨g, cap', cur, e, _, _, hnc, _⟩
    · omega
    · injection e with _ _ e3; omega
  have hadd : addP L i c = lowP L i ++ ((i, c) :: highP L i) := by unfold addP; rw [hm, Int.zero_add]; unfold midP; rw [if_pos c0]; rfl
  have HADD := Lib.hid hadd
  have HFF := Lib.hid hF
  have HC := Lib.hid hc
  have HIX := Lib.hid hi
  obtain ⟨hc1, hc2⟩ := hc
  have hP2 : Pairs w A (lowP L i ++ highP L i) := by rw [hp]; exact hP
  have HP2 := Lib.hid hP2
  have HH := Lib.hid hh
  have HN := Lib.hid hn
  have hform : (A = none ∧ L.length = 0 ∧ cap = 0) ∨ ∃ g, A = some ⟨g, 0, none⟩ := by
    rcases h.2 with ⟨e, e0⟩ | ⟨g, cap', cur, e, _⟩
    · injection e with e1 e2 e3; exact Or.inl ⟨e1, e0, e3⟩
    · injection e with e1 _ _; exact Or.inr ⟨g, e1⟩
  clear hF hp hn his hg hP h hm hadd hP2 hh
  have fin : ∀ w1 w2 v2, Below w.heap.size w w1 → OwnP w2 w1.heap.size v2 (lowP L i ++ ((i, c) :: highP L i)) → Below w1.heap.size w1 w2 → Added w base (.slice A L.length cap) L i c (.returned v2) w2 := fun w1 w2 v2 hb1 ho hb2 =>
    ⟨v2, rfl, by rw [HADD.out]; exact World.ownsRow.mono ho (Nat.le_trans hb hb1.size), grown_call (grown_call (grown_refl w _) hb1) hb2, Or.inr fun g hg => Nat.le_trans hb1.size (OwnP.lt ho g hg).1⟩
  have FIN := Lib.hid fin
  clear fin
  rcases hform with ⟨rfl, hl0, rfl⟩ | ⟨g, rfl⟩
  · obtain rfl : n = 0 := by omega
    have HN2 : Hid (highP L i = []) := Lib.hid (List.eq_nil_of_length_eq_zero (by rw [HH.out]; omega))
    have HLL := Lib.hid hl0
    rw [hl0] at *
    clear hl0
    go_enter Tryz.func133, Tryz.ntmps133
    go_wp2_with fail
    refine HFF.out.mono ?_
    rintro e w1 ⟨rfl, hb1⟩
    have hC := add_concat w1 none none 0 0 0 0 (lowP L i) (highP L i) i c ((pairs_low HP2.out).call hb1) HN.out (by rw [HN2.out]; exact Pairs.nil _) (by rw [HN2.out]; rfl) HIX.out HC.out (by omega) (by omega)
    have HCC := Lib.hid hC
    clear hC
    go_wp2_with fail
    go_region_with (go_at_call 140; refine HCC.out.mono ?_; rintro e w2 ⟨v2, rfl, ho2, hb2⟩)
    all_goals
      go_wp2_with fail
      go_ret
      exact FIN.out _ _ _ hb1 ho2 hb2
  have n1 : (n : Int) ≤ cap := by omega
  have n2 : (n : Int) ≤ L.length := by omega
  have n3 : n ≤ cap := by omega
  by_cases hcn : cap = n
  · have e1 : L.length - n = 0 := by omega
    have HN2 : Hid (highP L i = []) := Lib.hid (List.eq_nil_of_length_eq_zero (by rw [HH.out]; omega))
    subst hcn
    have HE1 := Lib.hid e1
    clear e1
    go_enter Tryz.func133, Tryz.ntmps133
    go_wp2_with fail
    refine HFF.out.mono ?_
    rintro e w1 ⟨rfl, hb1⟩
    have hC := add_concat w1 (some ⟨g, 0, none⟩) (some ⟨g, 0, none⟩) cap cap 0 0 (lowP L i) (highP L i) i c ((pairs_low HP2.out).call hb1) HN.out (by rw [HN2.out]; exact ⟨fun p hp => (by cases hp), fun j p hj => by simp at hj⟩) (by rw [HN2.out]; rfl) HIX.out HC.out (by omega) (by omega)
    have HCC := Lib.hid hC
    clear hC
    go_wp2_with fail
    go_region_with (go_at_call 140; refine HCC.out.mono ?_; rintro e w2 ⟨v2, rfl, ho2, hb2⟩)
    all_goals
      go_wp2_with fail
      go_ret
      exact FIN.out _ _ _ hb1 ho2 hb2
  · go_enter Tryz.func133, Tryz.ntmps133
    go_wp2_with fail
    refine HFF.out.mono ?_
    rintro e w1 ⟨rfl, hb1⟩
    have hC := add_concat w1 (some ⟨g, 0, none⟩) (some ⟨g, n * 2, none⟩) n cap (L.length - n) (cap - n) (lowP L i) (highP L i) i c ((pairs_low HP2.out).call hb1) HN.out ((pairs_high HP2.out n HN.out).call hb1) HH.out HIX.out HC.out (by omega) (by omega)
    have HCC := Lib.hid hC
    clear hC
    go_wp2_with fail
    go_region_with (go_at_call 140; refine HCC.out.mono ?_; rintro e w2 ⟨v2, rfl, ho2, hb2⟩)
    all_goals
      go_wp2_with fail
      go_ret
      exact FIN.out _ _ _ hb1 ho2 hb2

theorem add_does : AddDoes := by
  intro w base v L i c h hb ok hg hl hi hc hn
  by_cases c0 : c = 0
  · subst c0; exact add_none_does w base v L i h hg
  · have hc0 : 0 < c := by unfold Word at hc; omega
    rcases good_part i hg with ⟨m, e1, e2, e3⟩ | ⟨e1, e2⟩
    · exact add_in_does w base v L i c m h hb ok hg hl hi hc hc0 e2 (by omega) e1 e3
    · exact add_new_does w base v L i c h hb ok hg hl hi hc hc0 e2 e1
end Go.Proofs.YtdpimbepafgapaaGreat

/-
  How package strip's row lies in memory (anywhere in its block); walk: runs.Add of such a row.
-/
namespace Go.Proofs.YtdpimbepafgapaaGreat
set_option linter.unusedVariables false
set_option linter.unusedSimpArgs false
open Go.RowKit

theorem set_cells8 {w : World} {b : Nat} {cs : Array Value} {t : TypeId} (h : w.heap[b]? = some (.cells cs t (0, 0))) (o : Nat) (u : Value) : (w.setCell ⟨b, o, none⟩ u).heap[b]? = some (.cells (cs.setIfInBounds o u) t (0, 0)) := by
  have hlt := lt_of_block h
  have h' : w.heap[b] = .cells cs t (0, 0) := by simpa [Array.getElem?_eq_getElem hlt] using h
  show (w.heap.modify b _)[b]? = _
  rw [Array.getElem?_eq_getElem (by simpa using hlt), Array.getElem_modify_self, h']
  rfl
theorem free8 {w : World} {b : Nat} {cs : Array Value} {t : TypeId} (h : w.heap[b]? = some (.cells cs t (0, 0))) (o : Nat) : w.frozen? ⟨b, o, none⟩ = false := by simp [World.frozen?, h]

/-- A row of pairs that may be written; its first pair may lie anywhere in its block. -/
structure Slab (w : World) (A : Option Addr) (cap : Nat) (L : List PairV) : Prop where
  pairs : Pairs w A L
  fit : L.length ≤ cap
  blk : (A = none ∧ cap = 0) ∨ ∃ g off cs, A = some ⟨g, off, none⟩ ∧ w.heap[g]? = some (.cells cs 114 (0, 0))
/-- The block of such a row. -/
def blkA (A : Option Addr) : Option Nat := A.map fun a => a.block
theorem blk_slice (A : Option Addr) (n cap : Nat) : (Value.slice A n cap).ownBlock = blkA A := by cases A <;> rfl
theorem Slab.nil (w : World) : Slab w none 0 [] := ⟨Pairs.nil w, by simp, Or.inl ⟨rfl, rfl⟩⟩
theorem Slab.form {w : World} {A : Option Addr} {cap : Nat} {L : List PairV} (h : Slab w A cap L) : (A = none ∧ L = [] ∧ cap = 0) ∨ ∃ g off, A = some ⟨g, off, none⟩ := by
  rcases h.blk with ⟨rfl, rfl⟩ | ⟨g, off, cs, rfl, _⟩
  · exact Or.inl ⟨rfl, List.eq_nil_of_length_eq_zero (by have := h.fit; omega), rfl⟩
  · exact Or.inr ⟨g, off, rfl⟩
theorem Slab.lt {w : World} {A : Option Addr} {cap : Nat} {L : List PairV} (h : Slab w A cap L) {k : Nat} (hk : blkA A = some k) : k < w.heap.size := by
  rcases h.blk with ⟨rfl, _⟩ | ⟨g, off, cs, rfl, hb⟩
  · cases hk
  · cases hk; exact lt_of_block hb
theorem Slab.keep {w w' : World} {A : Option Addr} {cap : Nat} {L : List PairV} (h : Slab w A cap L) (hk : ∀ k, blkA A = some k → w'.heap[k]? = w.heap[k]?) : Slab w' A cap L := by
  refine ⟨⟨h.pairs.ok, fun i p hi => ?_⟩, h.fit, ?_⟩
  · obtain ⟨b, off, rfl, hlt, c0, c1⟩ := h.pairs.at_ i p hi
    have hb := hk b rfl
    refine ⟨b, off, rfl, ?_, (World.cell?_of_block (a := ⟨b, off + i * 2, none⟩) hb).trans c0, (World.cell?_of_block (a := ⟨b, off + i * 2 + 1, none⟩) hb).trans c1⟩
    exact World.block_lt_of_cell? (a := ⟨b, off + i * 2, none⟩) _ ((World.cell?_of_block (a := ⟨b, off + i * 2, none⟩) hb).trans c0)
  · rcases h.blk with h0 | ⟨g, off, cs, rfl, hb⟩
    · exact Or.inl h0
    · exact Or.inr ⟨g, off, cs, rfl, (hk g rfl).trans hb⟩
theorem Slab.call {w w' : World} {A : Option Addr} {cap : Nat} {L : List PairV} (h : Slab w A cap L) (hb : Below w.heap.size w w') : Slab w' A cap L := h.keep fun k hk => hb.block k (h.lt hk)
theorem Slab.of_own {w : World} {base : Nat} {v : Value} {L : List PairV} (h : OwnP w base v L) (ok : ∀ p, p ∈ L → okP p) : ∃ A cap, v = .slice A L.length cap ∧ Slab w A cap L ∧ ∀ k, blkA A = some k → base ≤ k := by
  obtain ⟨A, cap, rfl, hP⟩ := h.pairs ok
  refine ⟨A, cap, rfl, ?_, fun k hk => (h.lt k (by rw [blk_slice]; exact hk)).1⟩
  rcases h.2 with ⟨e, e0⟩ | ⟨g, cap', cur, e, _, hg, hnc, _⟩
  · injection e with e1 e2 e3
    exact ⟨hP, by omega, Or.inl ⟨e1, e3⟩⟩
  · injection e with e1 _ e3
    exact ⟨hP, by omega, Or.inr ⟨g, 0, cur, e1, hg⟩⟩
/-- A count is written. -/
theorem Slab.put {w : World} {g off cap n : Nat} {L lo hi : List PairV} {i m m' : Int} (h : Slab w (some ⟨g, off, none⟩) cap L) (hp : lo ++ ((i, m) :: hi) = L) (hn : lo.length = n) (hi' : I64 i) (hm : Word m') :
    Slab (w.setCell ⟨g, off + n * 2 + 1, none⟩ (.int .u64 m')) (some ⟨g, off, none⟩) cap (lo ++ ((i, m') :: hi)) := by
  subst hn hp
  have hsz : (lo ++ ((i, m') :: hi)).length = (lo ++ ((i, m) :: hi)).length := by simp
  refine ⟨⟨fun p hp' => ?_, fun j p hj => ?_⟩, by rw [hsz]; exact h.fit, ?_⟩
  · rcases List.mem_append.1 hp' with h1 | h1
    · exact h.pairs.ok p (List.mem_append_left _ h1)
    · rcases List.mem_cons.1 h1 with rfl | h2
      · exact ⟨hi', hm⟩
      · exact h.pairs.ok p (List.mem_append_right _ (List.mem_cons_of_mem _ h2))
  · obtain ⟨b0, o0, e0, hlt, x0, x1⟩ := h.pairs.at_ lo.length (i, m) (by rw [List.getElem?_append_right (Nat.le_refl _), Nat.sub_self]; rfl)
    obtain ⟨rfl, rfl, _⟩ := Addr.mk.inj (Option.some.inj e0)
    by_cases hjn : j = lo.length
    · subst hjn
      rw [List.getElem?_append_right (Nat.le_refl _), Nat.sub_self] at hj
      obtain rfl := Option.some.inj hj
      refine ⟨g, off, rfl, by simpa [World.setCell] using hlt, ?_, World.cell?_setCell_same _ _ _ x1⟩
      rw [World.cell?_setCell_other _ _ _ _ (two_off (by omega))]; exact x0
    · have hj' : (lo ++ ((i, m) :: hi))[j]? = some p := by
        rcases Nat.lt_or_ge j lo.length with h1 | h1
        · rw [List.getElem?_append_left h1] at hj ⊢; exact hj
        · rw [List.getElem?_append_right h1] at hj ⊢
          obtain ⟨t, ht⟩ : ∃ t, j - lo.length = t + 1 := ⟨j - lo.length - 1, by omega⟩
          rw [ht] at hj ⊢
          exact hj
      obtain ⟨b0, o0, e0, hlt', c0, c1⟩ := h.pairs.at_ j p hj'
      obtain ⟨rfl, rfl, _⟩ := Addr.mk.inj (Option.some.inj e0)
      refine ⟨g, off, rfl, by simpa [World.setCell] using hlt, ?_, ?_⟩
      · rw [World.cell?_setCell_other _ _ _ _ (two_off (by omega))]; exact c0
      · rw [World.cell?_setCell_other _ _ _ _ (two_off (by omega))]; exact c1
  · rcases h.blk with ⟨e, _⟩ | ⟨g', off', cs, e, hb⟩
    · cases e
    · obtain ⟨rfl, rfl, _⟩ := Addr.mk.inj (Option.some.inj e)
      exact Or.inr ⟨g, off, _, rfl, set_cells8 hb _ _⟩

/-- What has become of a row. -/
def AddedV (w : World) (A : Option Addr) (L : List PairV) (e : Ending) (w' : World) : Prop :=
  ∃ A' cap', e = .returned (.slice A' L.length cap') ∧ Slab w' A' cap' L ∧ w.grownBy w' (blkA A) ∧ (A' = A ∨ ∀ k, blkA A' = some k → w.heap.size ≤ k)

set_option maxRecDepth 100000 in
set_option maxHeartbeats 1000000 in
theorem addv_in (w : World) (A : Option Addr) (cap : Nat) (L : List PairV) (i c m : Int) (h : Slab w A cap L) (hg : GoodP L) (hl : L.length ≤ 1000) (hi : I64 i) (hc : Word c) (c0 : 0 < c)
    (hm : countP L i = m) (hmc : m + c ≤ 9223372036854775807) (hp : lowP L i ++ ((i, m) :: highP L i) = L) (hm1 : 1 ≤ m) :
    Calls Tryz.prog 133 #[.slice A L.length cap, .int .i64 i, .int .u64 c] w (AddedV w A (addP L i c)) := by
  obtain ⟨n, hn⟩ : ∃ n, (lowP L i).length = n := ⟨_, rfl⟩
  have his : isP L i = true := by rw [← hp]; exact (is_part (L := L)).2 m
  have hF := find_big w A cap L i n true h.pairs (by omega) hg hi hn his
  have hxn : L[n]? = some (i, m) := by
    have : (lowP L i ++ ((i, m) :: highP L i))[n]? = some (i, m) := by rw [List.getElem?_append_right (by omega), hn, Nat.sub_self]; rfl
    rwa [hp] at this
  have hnl : n < L.length := by
    rcases Nat.lt_or_ge n L.length with h1 | h1
    · exact h1
    · rw [List.getElem?_eq_none h1] at hxn; cases hxn
  obtain ⟨g, off, rfl, hbl, d0, d1⟩ := h.pairs.at_ n _ hxn
  have hadd : addP L i c = lowP L i ++ ((i, m + c) :: highP L i) := by unfold addP; rw [hm]; unfold midP; rw [if_pos (by omega)]; rfl
  have hlen : (addP L i c).length = L.length := by rw [hadd]; have := congrArg List.length hp; simp only [List.length_append, List.length_cons] at this ⊢; exact this
  have HS : Hid (∀ w1, Below w.heap.size w w1 → AddedV w (some ⟨g, off, none⟩) (addP L i c) (.returned (.slice (some ⟨g, off, none⟩) L.length cap)) (w1.setCell ⟨g, off + n * 2 + 1, none⟩ (.int .u64 (m + c)))) := Lib.hid fun w1 hb1 => by
    have h1 := (h.call hb1).put hp hn hi (m' := m + c) ⟨by omega, by omega⟩
    rw [← hadd] at h1
    exact ⟨some ⟨g, off, none⟩, cap, by rw [hlen], h1, grown_trans (grown_call (grown_refl w _) hb1) (grown_setCell _ _ _ _), Or.inl rfl⟩
  have HF0 : Hid (∀ w1, Below w.heap.size w w1 → w1.frozen? ⟨g, off + n * 2 + 1, none⟩ = false) := Lib.hid fun w1 hb1 => by
    rcases (h.call hb1).blk with ⟨e, _⟩ | ⟨g', off', cs, e, hb⟩
    · cases e
    · obtain ⟨rfl, rfl, _⟩ := Addr.mk.inj (Option.some.inj e)
      exact free8 hb _
  have hm64 : m < 18446744073709551616 := by omega
  have hmc2 : IntKind.u64.wrap (m + c) = m + c := by rw [IntKind.wrap_u64]; omega
  have cz : (c == 0) = false := by simp; omega
  have HFF := Lib.hid hF
  obtain ⟨hc1, hc2⟩ := hc
  have nn : (n : Int) < L.length := by omega
  clear hF hxn h hadd hm hp hn his hg d0 hlen
  go_enter Tryz.func133, Tryz.ntmps133
  go_wp2_with fail
  refine HFF.out.mono ?_
  rintro e w1 ⟨rfl, hb1⟩
  have d2 : w1.cell? ⟨g, off + n * 2 + 1, none⟩ = some (.int .u64 m) := cell_later hb1 d1
  have f2 := HF0.out _ hb1
  clear d1
  go_wp2_with fail
  go_ret
  exact HS.out _ hb1

theorem pairs_from {w : World} {g off : Nat} {lo hi : List PairV} (h : Pairs w (some ⟨g, off, none⟩) (lo ++ hi)) (n : Nat) (hn : lo.length = n) : Pairs w (some ⟨g, off + n * 2, none⟩) hi := by
  have h1 := h.shift n
  rw [List.drop_append_of_le_length (by omega), List.drop_of_length_le (by omega), List.nil_append] at h1
  exact h1

set_option maxRecDepth 100000 in
set_option maxHeartbeats 1000000 in
theorem addv_new (w : World) (A : Option Addr) (cap : Nat) (L : List PairV) (i c : Int) (h : Slab w A cap L) (hg : GoodP L) (hl : L.length ≤ 1000) (hi : I64 i) (hc : Word c) (c0 : 0 < c)
    (hm : countP L i = 0) (hp : lowP L i ++ highP L i = L) :
    Calls Tryz.prog 133 #[.slice A L.length cap, .int .i64 i, .int .u64 c] w (AddedV w A (addP L i c)) := by
  have hP := h.pairs
  obtain ⟨n, hn⟩ : ∃ n, (lowP L i).length = n := ⟨_, rfl⟩
  have hnl : n ≤ L.length := by rw [← hn]; exact List.length_filter_le _ _
  have his : isP L i = false := by rw [← hp]; exact (is_part (L := L)).1
  have hF := find_big w A cap L i n false hP (by omega) hg hi hn his
  have hh : (highP L i).length = L.length - n := by have := congrArg List.length hp; rw [List.length_append] at this; omega
  have cz : (c == 0) = false := by simp; omega
  have hcap := h.fit
  have hadd : addP L i c = lowP L i ++ ((i, c) :: highP L i) := by unfold addP; rw [hm, Int.zero_add]; unfold midP; rw [if_pos c0]; rfl
  have hok : ∀ p, p ∈ addP L i c → okP p := by
    intro p hp'
    rw [hadd] at hp'
    rcases List.mem_append.1 hp' with h1 | h1
    · exact hP.ok p (by rw [← hp]; exact List.mem_append_left _ h1)
    · rcases List.mem_cons.1 h1 with rfl | h2
      · exact ⟨hi, hc⟩
      · exact hP.ok p (by rw [← hp]; exact List.mem_append_right _ h2)
  have HFF := Lib.hid hF
  have HC := Lib.hid hc
  have HIX := Lib.hid hi
  obtain ⟨hc1, hc2⟩ := hc
  have hP2 : Pairs w A (lowP L i ++ highP L i) := by rw [hp]; exact hP
  have HP2 := Lib.hid hP2
  have HH := Lib.hid hh
  have HN := Lib.hid hn
  have hform := h.form
  have fin : ∀ w1 w2 v2, Below w.heap.size w w1 → OwnP w2 w1.heap.size v2 (lowP L i ++ ((i, c) :: highP L i)) → Below w1.heap.size w1 w2 → AddedV w A (addP L i c) (.returned v2) w2 := fun w1 w2 v2 hb1 ho hb2 => by
    rw [← hadd] at ho
    obtain ⟨A2, cap2, rfl, hr, hl2⟩ := Slab.of_own ho hok
    exact ⟨A2, cap2, rfl, hr, grown_call (grown_call (grown_refl w _) hb1) hb2, Or.inr fun k hk => Nat.le_trans hb1.size (hl2 k hk)⟩
  have FIN := Lib.hid fin
  clear fin hF hp hn his hg hP h hm hadd hP2 hh hok
  rcases hform with ⟨rfl, hl0, rfl⟩ | ⟨g, off, rfl⟩
  · subst hl0
    obtain rfl : n = 0 := by simp at hnl; omega
    have HN2 : Hid (highP [] i = []) := Lib.hid rfl
    have hl0 : ([] : List PairV).length = 0 := rfl
    rw [hl0] at *
    clear hl0
    go_enter Tryz.func133, Tryz.ntmps133
    go_wp2_with fail
    refine HFF.out.mono ?_
    rintro e w1 ⟨rfl, hb1⟩
    have hC := add_concat w1 none none 0 0 0 0 (lowP [] i) (highP [] i) i c ((pairs_low HP2.out).call hb1) HN.out (by rw [HN2.out]; exact Pairs.nil _) (by rw [HN2.out]; rfl) HIX.out HC.out (by omega) (by omega)
    have HCC := Lib.hid hC
    clear hC
    go_wp2_with fail
    go_region_with (go_at_call 140; refine HCC.out.mono ?_; rintro e w2 ⟨v2, rfl, ho2, hb2⟩)
    all_goals
      go_wp2_with fail
      go_ret
      exact FIN.out _ _ _ hb1 ho2 hb2
  have n1 : (n : Int) ≤ cap := by omega
  have n2 : (n : Int) ≤ L.length := by omega
  have n3 : n ≤ cap := by omega
  by_cases hcn : cap = n
  · have e1 : L.length - n = 0 := by omega
    have HN2 : Hid (highP L i = []) := Lib.hid (List.eq_nil_of_length_eq_zero (by rw [HH.out]; omega))
    subst hcn
    have HE1 := Lib.hid e1
    clear e1
    go_enter Tryz.func133, Tryz.ntmps133
    go_wp2_with fail
    refine HFF.out.mono ?_
    rintro e w1 ⟨rfl, hb1⟩
    have hC := add_concat w1 (some ⟨g, off, none⟩) (some ⟨g, off, none⟩) cap cap 0 0 (lowP L i) (highP L i) i c ((pairs_low HP2.out).call hb1) HN.out (by rw [HN2.out]; exact ⟨fun p hp => (by cases hp), fun j p hj => by simp at hj⟩) (by rw [HN2.out]; rfl) HIX.out HC.out (by omega) (by omega)
    have HCC := Lib.hid hC
    clear hC
    go_wp2_with fail
    go_region_with (go_at_call 140; refine HCC.out.mono ?_; rintro e w2 ⟨v2, rfl, ho2, hb2⟩)
    all_goals
      go_wp2_with fail
      go_ret
      exact FIN.out _ _ _ hb1 ho2 hb2
  · go_enter Tryz.func133, Tryz.ntmps133
    go_wp2_with fail
    refine HFF.out.mono ?_
    rintro e w1 ⟨rfl, hb1⟩
    have hC := add_concat w1 (some ⟨g, off, none⟩) (some ⟨g, off + n * 2, none⟩) n cap (L.length - n) (cap - n) (lowP L i) (highP L i) i c ((pairs_low HP2.out).call hb1) HN.out ((pairs_from HP2.out n HN.out).call hb1) HH.out HIX.out HC.out (by omega) (by omega)
    have HCC := Lib.hid hC
    clear hC
    go_wp2_with fail
    go_region_with (go_at_call 140; refine HCC.out.mono ?_; rintro e w2 ⟨v2, rfl, ho2, hb2⟩)
    all_goals
      go_wp2_with fail
      go_ret
      exact FIN.out _ _ _ hb1 ho2 hb2

theorem addv_any (w : World) (A : Option Addr) (cap : Nat) (L : List PairV) (i c : Int) (h : Slab w A cap L) (hg : GoodP L) (hl : L.length ≤ 1000) (hi : I64 i) (hc : Word c) (c0 : 0 < c) (hn : countP L i + c ≤ 9223372036854775807) :
    Calls Tryz.prog 133 #[.slice A L.length cap, .int .i64 i, .int .u64 c] w (AddedV w A (addP L i c)) := by
  rcases good_part i hg with ⟨m, e1, e2, e3⟩ | ⟨e1, e2⟩
  · exact addv_in w A cap L i c m h hg hl hi hc c0 e2 (by omega) e1 e3
  · exact addv_new w A cap L i c h hg hl hi hc c0 e2 e1
end Go.Proofs.YtdpimbepafgapaaGreat

/-
  Walk: wide.Plus of two numbers, that lie in a block of their own.
-/
namespace Go.Proofs.YtdpimbepafgapaaGreat
set_option linter.unusedVariables false
set_option linter.unusedSimpArgs false
open Go.RowKit

def plus2B (a b : Int) : Bool := decide (a + b ≤ 9223372036854775807)
def plus2Q (a b : Int) : Int := if plus2B a b then a + b else 0

set_option maxRecDepth 100000 in
set_option maxHeartbeats 1000000 in
theorem plus_two (x y q : Int) (ok : Bool) (g cap : Nat) (w : World) (hx : Word x) (hy : Word y) (h0 : w.cell? ⟨g, 0, none⟩ = some (.int .u64 x)) (h1 : w.cell? ⟨g, 1, none⟩ = some (.int .u64 y)) (hq : plus2Q x y = q) (hb : plus2B x y = ok) :
    Calls Tryz.prog 70 #[.slice (some ⟨g, 0, none⟩) 2 cap] w fun e w' =>
      e = .returned (.tuple #[.int .u64 q, .bool ok]) ∧ w = w' := by
  obtain ⟨x0, x1⟩ := hx
  obtain ⟨y0, y1⟩ := hy
  have HQ := Lib.hid hq
  have HB := Lib.hid hb
  clear hq hb
  by_cases a1 : 9223372036854775807 < x
  · have E1 : Hid (ok = false) := Lib.hid (by rw [← HB.out]; unfold plus2B; apply decide_eq_false; omega)
    have E2 : Hid (q = 0) := Lib.hid (by rw [← HQ.out]; unfold plus2Q; rw [HB.out, E1.out]; rfl)
    go_enter Tryz.func70, Tryz.ntmps70
    go_wp2_with fail
    go_loop [4, 9] (fun s i => s = .int .u64 0 ∧ i = .int .i64 0) (fun _ _ => 0)
    case atStart => exact ⟨rfl, rfl⟩
    case round =>
      obtain ⟨rfl, rfl⟩ := hrel
      have a2 : 9223372036854775807 - 0 < x := by omega
      go_wp2_with fail
      exact bodyPost_ret (v := .tuple #[.int .u64 0, .bool false]) (by simp [results, Tryz.results70, go_sem]) rfl ⟨by rw [E1.out, E2.out], rfl⟩
  · by_cases a2 : 9223372036854775807 - x < y
    · have E1 : Hid (ok = false) := Lib.hid (by rw [← HB.out]; unfold plus2B; apply decide_eq_false; omega)
      have E2 : Hid (q = 0) := Lib.hid (by rw [← HQ.out]; unfold plus2Q; rw [HB.out, E1.out]; rfl)
      go_enter Tryz.func70, Tryz.ntmps70
      go_wp2_with fail
      go_loop [4, 9] (fun s i => (s = .int .u64 0 ∧ i = .int .i64 0) ∨ (s = .int .u64 x ∧ i = .int .i64 1)) (fun _ i => 2 - (intOf i).toNat)
      case atStart => exact Or.inl ⟨rfl, rfl⟩
      case round =>
        rcases hrel with ⟨rfl, rfl⟩ | ⟨rfl, rfl⟩
        · go_wp2_with fail
          go_round
          case rel => exact Or.inr ⟨by go_num, by go_num⟩
          case measure => simp [intOf]
        · go_wp2_with fail
          exact bodyPost_ret (v := .tuple #[.int .u64 0, .bool false]) (by simp [results, Tryz.results70, go_sem]) rfl ⟨by rw [E1.out, E2.out], rfl⟩
    · have E1 : Hid (ok = true) := Lib.hid (by rw [← HB.out]; unfold plus2B; apply decide_eq_true; omega)
      have E2 : Hid (q = x + y) := Lib.hid (by rw [← HQ.out]; unfold plus2Q; rw [HB.out, E1.out]; rfl)
      go_enter Tryz.func70, Tryz.ntmps70
      go_wp2_with fail
      go_loop [4, 9] (fun s i => (s = .int .u64 0 ∧ i = .int .i64 0) ∨ (s = .int .u64 x ∧ i = .int .i64 1) ∨ (s = .int .u64 (x + y) ∧ i = .int .i64 2)) (fun _ i => 2 - (intOf i).toNat)
      case atStart => exact Or.inl ⟨rfl, rfl⟩
      case round =>
        rcases hrel with ⟨rfl, rfl⟩ | ⟨rfl, rfl⟩ | ⟨rfl, rfl⟩
        · go_wp2_with fail
          go_round
          case rel => exact Or.inr (Or.inl ⟨by go_num, by go_num⟩)
          case measure => simp [intOf]
        · go_wp2_with fail
          go_round
          case rel => exact Or.inr (Or.inr ⟨by go_num, by go_num⟩)
          case measure => simp [intOf]
        · go_wp2_with fail
          exact bodyPost_ret (v := .tuple #[.int .u64 (x + y), .bool true]) (by simp [results, Tryz.results70, go_sem]) rfl ⟨by rw [E1.out, E2.out], rfl⟩
end Go.Proofs.YtdpimbepafgapaaGreat

/-
  How package strip lays a strip in memory; walks: New, own, Len, Total, At, Ends, of a strip and of a nil one.
  Walk: package strip: Add, of a strip and of a nil one.
-/
namespace Go.Proofs.YtdpimbepafgapaaGreat
set_option linter.unusedVariables false
set_option linter.unusedSimpArgs false
open Go.RowKit

/-- At block B lies a strip: how many pairs at most, its row, their sum. -/
structure LayS (w : World) (B : Nat) (A : Option Addr) (n cap : Nat) (m t : Int) (L : List PairV) : Prop where
  b : w.heap[B]? = some (.cells #[.int .i64 m, .slice A n cap, .int .u64 t] 194 (0, 0))
  row : Slab w A cap L
theorem LayS.c0 {w : World} {B : Nat} {A : Option Addr} {n cap : Nat} {m t : Int} {L : List PairV} (h : LayS w B A n cap m t L) : w.cell? ⟨B, 0, none⟩ = some (.int .i64 m) := by rw [Joins.cell_of_block h.b]; rfl
theorem LayS.c1 {w : World} {B : Nat} {A : Option Addr} {n cap : Nat} {m t : Int} {L : List PairV} (h : LayS w B A n cap m t L) : w.cell? ⟨B, 1, none⟩ = some (.slice A n cap) := by rw [Joins.cell_of_block h.b]; rfl
theorem LayS.c2 {w : World} {B : Nat} {A : Option Addr} {n cap : Nat} {m t : Int} {L : List PairV} (h : LayS w B A n cap m t L) : w.cell? ⟨B, 2, none⟩ = some (.int .u64 t) := by rw [Joins.cell_of_block h.b]; rfl
theorem LayS.f {w : World} {B : Nat} {A : Option Addr} {n cap : Nat} {m t : Int} {L : List PairV} (h : LayS w B A n cap m t L) (o : Nat) : w.frozen? ⟨B, o, none⟩ = false := free8 h.b o
theorem LayS.lt {w : World} {B : Nat} {A : Option Addr} {n cap : Nat} {m t : Int} {L : List PairV} (h : LayS w B A n cap m t L) : B < w.heap.size := lt_of_block h.b
theorem LayS.ne {w : World} {B : Nat} {A : Option Addr} {n cap : Nat} {m t : Int} {L : List PairV} (h : LayS w B A n cap m t L) {k : Nat} (hk : blkA A = some k) : k ≠ B := by
  rintro rfl
  rcases h.row.blk with ⟨rfl, _⟩ | ⟨g, off, cs, rfl, hb⟩
  · cases hk
  · cases hk
    have h1 := h.b
    rw [hb] at h1
    injection h1 with h2
    injection h2 with _ h3
    revert h3
    decide
theorem LayS.keep {w w' : World} {B : Nat} {A : Option Addr} {n cap : Nat} {m t : Int} {L : List PairV} (h : LayS w B A n cap m t L) (h1 : w'.heap[B]? = w.heap[B]?) (h2 : ∀ k, blkA A = some k → w'.heap[k]? = w.heap[k]?) : LayS w' B A n cap m t L := ⟨h1.trans h.b, h.row.keep h2⟩
theorem LayS.call {w w' : World} {B : Nat} {A : Option Addr} {n cap : Nat} {m t : Int} {L : List PairV} (h : LayS w B A n cap m t L) (hb : Below w.heap.size w w') : LayS w' B A n cap m t L := ⟨(hb.block _ h.lt).trans h.b, h.row.call hb⟩

/-- A strip at block B, of m pairs at most, whose row is L; S are its blocks. -/
def StX (w : World) (B : Nat) (S : Nat → Prop) (m : Int) (L : List PairV) : Prop :=
  Stp m L ∧ I64 m ∧ ∃ A cap, LayS w B A L.length cap m (sumP L) L ∧ ∀ k, S k ↔ k = B ∨ blkA A = some k
theorem stx_keep (w w' : World) (B : Nat) (S : Nat → Prop) (m : Int) (L : List PairV) (h : StX w B S m L) (hk : ∀ k, S k → w'.heap[k]? = w.heap[k]?) : StX w' B S m L := by
  obtain ⟨h1, h2, A, cap, h3, h4⟩ := h
  exact ⟨h1, h2, A, cap, h3.keep (hk B ((h4 B).2 (Or.inl rfl))) (fun k hA => hk k ((h4 k).2 (Or.inr hA))), h4⟩
theorem stx_lt (w : World) (B : Nat) (S : Nat → Prop) (m : Int) (L : List PairV) (h : StX w B S m L) : ∀ k, S k → k < w.heap.size := by
  obtain ⟨h1, h2, A, cap, h3, h4⟩ := h
  intro k hk
  rcases (h4 k).1 hk with rfl | hA
  · exact h3.lt
  · exact h3.row.lt hA
theorem stx_cells (w : World) (B : Nat) (S : Nat → Prop) (m : Int) (L : List PairV) (h : StX w B S m L) : ∀ k, S k → ∃ cs t z, w.heap[k]? = some (.cells cs t z) := by
  obtain ⟨h1, h2, A, cap, h3, h4⟩ := h
  intro k hk
  rcases (h4 k).1 hk with rfl | hA
  · exact ⟨_, _, _, h3.b⟩
  · rcases h3.row.blk with ⟨rfl, _⟩ | ⟨g, off, cs, rfl, hb⟩
    · cases hA
    · cases hA; exact ⟨_, _, _, hb⟩

set_option maxHeartbeats 400000 in
theorem snew_any (w : World) (m : Int) (h1 : 1 ≤ m) (h2 : m ≤ 4096) :
    Calls Tryz.prog 122 #[.int .i64 m] w fun e w' => ∃ B S, e = .returned (.tuple #[.pointer (some ⟨B, 0, none⟩), .int .i64 0]) ∧ StX w' B S m [] ∧ (∀ k, S k → w.heap.size ≤ k) ∧ Below w.heap.size w w' := by
  have q1 : ¬ m < 1 := by omega
  have q2 : ¬ 4096 < m := by omega
  go_enter Tryz.func122, Tryz.ntmps122
  go_wp2_with fail
  refine bodyPost_ret (v := .tuple #[.pointer (some ⟨w.heap.size, 0, none⟩), .int .i64 0]) (by simp [results, Tryz.results122, go_sem]) rfl ?_
  refine ⟨w.heap.size, rfl, fun k => k = w.heap.size, ⟨Stp.nil (by omega), ⟨by omega, by omega⟩, none, 0, ⟨heap_alloc_new _ _, Slab.nil _⟩, fun k => ⟨Or.inl, fun h => by rcases h with h | h; exact h; cases h⟩⟩, fun k hk => by subst hk; exact Nat.le_refl _, (Below.refl _ _).alloc (Nat.le_refl _) _⟩
set_option maxHeartbeats 400000 in
theorem sbad_any (w : World) (m : Int) (hm : I64 m) (hb : m < 1 ∨ 4096 < m) :
    Calls Tryz.prog 122 #[.int .i64 m] w fun e w' => e = .returned (.tuple #[.pointer none, .int .i64 1]) ∧ Below w.heap.size w w' := by
  by_cases q2 : m < 1
  · go_enter Tryz.func122, Tryz.ntmps122
    go_wp2_with fail
    go_ret2
    exact ⟨rfl, Below.refl _ _⟩
  · have q3 : 4096 < m := by omega
    go_enter Tryz.func122, Tryz.ntmps122
    go_wp2_with fail
    go_ret2
    exact ⟨rfl, Below.refl _ _⟩

set_option maxHeartbeats 400000 in
theorem sown_at (w : World) (B : Nat) (v : Value) (h : w.cell? ⟨B, 1, none⟩ = some v) :
    Calls Tryz.prog 129 #[.pointer (some ⟨B, 0, none⟩)] w fun e w' => e = .returned v ∧ w = w' := by
  go_enter Tryz.func129, Tryz.ntmps129
  go_wp2_with fail
  go_ret
  exact ⟨rfl, rfl⟩
set_option maxHeartbeats 400000 in
theorem sown_none (w : World) :
    Calls Tryz.prog 129 #[.pointer none] w fun e w' => e = .returned (.slice none 0 0) ∧ w = w' := by
  go_enter Tryz.func129, Tryz.ntmps129
  go_wp2_with fail
  go_ret
  exact ⟨rfl, rfl⟩
/-- A strip, or none: what its own row is. -/
def OwnsV (w : World) (p : Option Addr) (A : Option Addr) (n cap : Nat) : Prop := ∀ w', Below w.heap.size w w' → Calls Tryz.prog 129 #[.pointer p] w' fun e w'' => e = .returned (.slice A n cap) ∧ w' = w''
theorem owns_at {w : World} {B : Nat} {A : Option Addr} {n cap : Nat} (h : w.cell? ⟨B, 1, none⟩ = some (.slice A n cap)) : OwnsV w (some ⟨B, 0, none⟩) A n cap := fun w' hb => sown_at w' B _ (cell_later hb h)
theorem owns_none (w : World) : OwnsV w none none 0 0 := fun w' _ => sown_none w'
theorem OwnsV.now {w : World} {p A : Option Addr} {n cap : Nat} (h : OwnsV w p A n cap) : Calls Tryz.prog 129 #[.pointer p] w fun e w' => e = .returned (.slice A n cap) ∧ w = w' := h w (Below.refl _ _)

set_option maxHeartbeats 400000 in
theorem slen_of (w : World) (p A : Option Addr) (n cap : Nat) (h : OwnsV w p A n cap) :
    Calls Tryz.prog 136 #[.pointer p] w fun e w' => e = .returned (.int .i64 n) ∧ w = w' := by
  have H := Lib.hid h
  clear h
  go_enter Tryz.func136, Tryz.ntmps136
  go_wp2_with fail
  refine H.out.now.mono ?_
  rintro e w2 ⟨rfl, rfl⟩
  go_wp2_with fail
  go_ret
  exact ⟨rfl, rfl⟩
set_option maxHeartbeats 400000 in
theorem stotal_at (w : World) (B : Nat) (t : Int) (h : w.cell? ⟨B, 2, none⟩ = some (.int .u64 t)) :
    Calls Tryz.prog 112 #[.pointer (some ⟨B, 0, none⟩)] w fun e w' => e = .returned (.int .u64 t) ∧ w = w' := by
  go_enter Tryz.func112, Tryz.ntmps112
  go_wp2_with fail
  go_ret
  exact ⟨rfl, rfl⟩
set_option maxHeartbeats 400000 in
theorem stotal_none (w : World) :
    Calls Tryz.prog 112 #[.pointer none] w fun e w' => e = .returned (.int .u64 0) ∧ w = w' := by
  go_enter Tryz.func112, Tryz.ntmps112
  go_wp2_with fail
  go_ret
  exact ⟨rfl, rfl⟩

/-- Where an index stands in a good row, and how many of it there are. -/
theorem good_where {L : List PairV} (i : Int) (hg : GoodP L) : ∃ n, (lowP L i).length = n ∧ n ≤ L.length ∧
    ((isP L i = true ∧ n < L.length ∧ L[n]? = some (i, countP L i) ∧ belowP L i = sumP (L.take (n + 1)) ∧ (∀ c, 0 < c → 0 ≤ countP L i → (addP L i c).length = L.length)) ∨
     (isP L i = false ∧ countP L i = 0 ∧ belowP L i = sumP (L.take n) ∧ (∀ c, 0 < c → (addP L i c).length = L.length + 1))) := by
  have hlo : ∀ A : List PairV, (∀ p, p ∈ A → p.1 < i) → A.filter (fun p => decide (p.1 ≤ i)) = A := fun A h => List.filter_eq_self.2 fun p hp => by have := h p hp; simp; omega
  have hhi : ∀ A : List PairV, (∀ p, p ∈ A → i < p.1) → A.filter (fun p => decide (p.1 ≤ i)) = [] := fun A h => List.filter_eq_nil_iff.2 fun p hp => by have := h p hp; simp; omega
  have h1 := hlo (lowP L i) fun p hp => (lowP_mem hp).2
  have h2 := hhi (highP L i) fun p hp => (highP_mem hp).2
  refine ⟨_, rfl, List.length_filter_le _ _, ?_⟩
  rcases good_part i hg with ⟨m, e1, e2, e3⟩ | ⟨e1, e2⟩
  · refine Or.inl ⟨by rw [← e1]; exact (is_part (L := L)).2 m, ?_, ?_, ?_, fun c hc _ => ?_⟩
    · have := congrArg List.length e1; simp only [List.length_append, List.length_cons] at this; omega
    · rw [e2]
      have : (lowP L i ++ ((i, m) :: highP L i))[(lowP L i).length]? = some (i, m) := by rw [List.getElem?_append_right (Nat.le_refl _), Nat.sub_self]; rfl
      rwa [e1] at this
    · have h3 : belowP (lowP L i ++ ((i, m) :: highP L i)) i = sumP ((lowP L i ++ ((i, m) :: highP L i)).take ((lowP L i).length + 1)) := by
        unfold belowP
        rw [List.filter_append, h1, List.filter_cons_of_pos (by simp), h2, List.take_append, List.take_of_length_le (Nat.le_succ _), Nat.add_sub_cancel_left]
        rfl
      rwa [e1] at h3
    · have h4 := congrArg List.length e1
      unfold addP
      rw [e2]
      unfold midP
      rw [if_pos (by omega)]
      simp only [List.length_append, List.length_cons, List.length_nil] at h4 ⊢
      omega
  · refine Or.inr ⟨by rw [← e1]; exact (is_part (L := L)).1, e2, ?_, fun c hc => ?_⟩
    · have h3 : belowP (lowP L i ++ highP L i) i = sumP ((lowP L i ++ highP L i).take (lowP L i).length) := by
        unfold belowP
        rw [List.filter_append, h1, h2, List.take_append_of_le_length (Nat.le_refl _), List.take_length, List.append_nil]
      rwa [e1] at h3
    · have h4 := congrArg List.length e1
      unfold addP
      rw [e2]
      unfold midP
      rw [if_pos (by omega)]
      simp only [List.length_append, List.length_cons, List.length_nil] at h4 ⊢
      omega

set_option maxRecDepth 100000 in
set_option maxHeartbeats 1000000 in
theorem sends_none (w : World) (p A : Option Addr) (cap : Nat) (h : OwnsV w p A 0 cap) :
    Calls Tryz.prog 130 #[.pointer p] w fun e w' => e = .returned (.tuple #[.int .i64 0, .int .i64 0, .bool false]) ∧ Below w.heap.size w w' := by
  have H := Lib.hid h
  clear h
  go_enter Tryz.func130, Tryz.ntmps130
  go_wp2_with fail
  refine H.out.now.mono ?_
  rintro e w2 ⟨rfl, rfl⟩
  go_wp2_with fail
  exact bodyPost_ret (v := .tuple #[.int .i64 0, .int .i64 0, .bool false]) (by simp [results, Tryz.results130, go_sem]) rfl ⟨rfl, Below.refl _ _⟩

set_option maxRecDepth 100000 in
set_option maxHeartbeats 1000000 in
theorem sends_of (w : World) (p A : Option Addr) (cap N : Nat) (px pc qx qc : Int) (L : List PairV) (h : OwnsV w p A N cap) (hP : Pairs w A L) (hN : L.length = N) (hpos : 0 < N) (hl : N ≤ 1000) (h0 : L[0]? = some (px, pc)) (h1 : L[N - 1]? = some (qx, qc)) :
    Calls Tryz.prog 130 #[.pointer p] w fun e w' => e = .returned (.tuple #[.int .i64 px, .int .i64 qx, .bool true]) ∧ Below w.heap.size w w' := by
  have H := Lib.hid h
  obtain ⟨nn, hnn⟩ : ∃ nn, N - 1 = nn := ⟨_, rfl⟩
  rw [hnn] at h1
  obtain ⟨g, off, rfl, hbl, d0, _⟩ := hP.at_ 0 _ h0
  obtain ⟨g', off', e', _, g0, _⟩ := hP.at_ nn _ h1
  obtain ⟨rfl, rfl, _⟩ := Addr.mk.inj (Option.some.inj e')
  simp only [Nat.zero_mul, Nat.add_zero] at d0
  simp only at g0
  have k0 : ((N : Int) == 0) = false := by simp; omega
  have kN : (0 : Int) < (N : Int) := by omega
  have u1 : IntKind.i64.wrap ((N : Int) - 1) = (nn : Int) := by rw [IntKind.wrap_i64]; omega
  have u2 : (N : Int) - 1 = (nn : Int) := by omega
  have u3 : (nn : Int) < (N : Int) := by omega
  have u4 : (0 : Int) ≤ (nn : Int) := by omega
  have u5 : IntKind.i64.wrap (nn : Int) = (nn : Int) := by rw [IntKind.wrap_i64]; omega
  clear h hP hN h0 h1 hnn e'
  go_enter Tryz.func130, Tryz.ntmps130
  go_wp2_with fail
  refine H.out.now.mono ?_
  rintro e w2 ⟨rfl, rfl⟩
  go_wp2_with fail
  go_quiet (fail)
  go_wp2_with fail
  exact bodyPost_ret (v := .tuple #[.int .i64 px, .int .i64 qx, .bool true]) (by simp [results, Tryz.results130, go_sem]) rfl ⟨rfl, below_drewN (Below.refl _ _) _⟩
end Go.Proofs.YtdpimbepafgapaaGreat

namespace Go.Proofs.YtdpimbepafgapaaGreat
set_option linter.unusedVariables false
set_option linter.unusedSimpArgs false
open Go.RowKit

theorem Keeps.set {S : Nat → Prop} {w w1 : World} (k : Keeps S w w1) {b : Nat} (o : Nat) (u : Value) (h : S b ∨ w.heap.size ≤ b) : Keeps S w (w1.setCell ⟨b, o, none⟩ u) :=
  ⟨k.os, k.tape, k.output, by simpa [World.setCell] using k.size, fun j hj hn => by
    rw [Below.heap_setCell _ _ _ _ (by show j ≠ b; rintro rfl; rcases h with h | h; exact hn h; omega)]; exact k.block j hj hn⟩
theorem Keeps.new {S : Nat → Prop} {w w1 : World} (k : Keeps S w w1) (o : Obj) : Keeps S w (w1.alloc o) :=
  ⟨k.os, k.tape, k.output, Nat.le_trans k.size (by simp), fun j hj hn => (heap_alloc_old _ _ (Nat.lt_of_lt_of_le hj k.size)).trans (k.block j hj hn)⟩
theorem Keeps.draws {S : Nat → Prop} {w w1 : World} (k : Keeps S w w1) (m : Nat) : Keeps S w (w1.drewN m) := by
  have h := below_drewN (Below.refl w1.heap.size w1) m
  exact ⟨h.os.trans k.os, h.tape.trans k.tape, h.output.trans k.output, Nat.le_trans k.size h.size, fun j hj hn => (h.block j (Nat.lt_of_lt_of_le hj k.size)).trans (k.block j hj hn)⟩
theorem keeps_grown {S : Nat → Prop} {w w1 : World} {r : Option Nat} (h : w.grownBy w1 r) (hS : ∀ k, r = some k → S k) : Keeps S w w1 :=
  ⟨h.os, h.tape, h.output, h.size, fun j hj hn => h.block j hj (fun e => hn (hS j e.symm))⟩
theorem two_new8 (w : World) (x y : Value) (t : TypeId) : (w.alloc (.cells #[x, y] t)).cell? ⟨w.heap.size, 0, none⟩ = some x ∧ (w.alloc (.cells #[x, y] t)).cell? ⟨w.heap.size, 1, none⟩ = some y := by
  have h : (w.alloc (.cells #[x, y] t)).heap[w.heap.size]? = some (.cells #[x, y] t (0, 0)) := heap_alloc_new w _
  exact ⟨by rw [Joins.cell_of_block h]; rfl, by rw [Joins.cell_of_block h]; rfl⟩

set_option maxHeartbeats 400000 in
theorem sadd_none (w : World) (i c : Int) (hi : I64 i) (hc : Word c) :
    Calls Tryz.prog 117 #[.pointer none, .int .i64 i, .int .u64 c] w fun e w' => e = .returned (.int .i64 2) ∧ Below w.heap.size w w' := by
  go_enter Tryz.func117, Tryz.ntmps117
  go_wp2_with fail
  go_ret
  exact ⟨rfl, Below.refl _ _⟩

/-- What Add comes to. -/
def AddsS (w : World) (B : Nat) (S : Nat → Prop) (m : Int) (L : List PairV) (i c : Int) (e : Ending) (w' : World) : Prop :=
  ∃ S', e = .returned (.int .i64 (stErr m L i c)) ∧ StX w' B S' m (stRow m L i c) ∧ Keeps S w w' ∧ (∀ k, S' k → S k ∨ w.heap.size ≤ k)
theorem adds_same {w w' : World} {B : Nat} {S : Nat → Prop} {m : Int} {L : List PairV} {i c x : Int} (h : StX w B S m L) (he : stErr m L i c = x) (hx : x ≠ 0) (hb : Below w.heap.size w w') : AddsS w B S m L i c (.returned (.int .i64 x)) w' :=
  ⟨S, by rw [he], by unfold stRow; rw [if_neg (by omega)]; exact stx_keep _ _ _ _ _ _ h (fun k hk => hb.block k (stx_lt _ _ _ _ _ h k hk)), Keeps.of_below hb, fun k hk => Or.inl hk⟩

set_option maxRecDepth 100000 in
set_option maxHeartbeats 2000000 in
theorem sadd_no (w : World) (B : Nat) (S : Nat → Prop) (m : Int) (L : List PairV) (i c : Int) (h : StX w B S m L) (hl : L.length ≤ 900) (hi : I64 i) (hc : Word c) (hcase : c = 0 ∧ stErr m L i c = 1 ∨ (0 < c ∧ 9223372036854775807 - sumP L < c ∧ stErr m L i c = 6)) :
    Calls Tryz.prog 117 #[.pointer (some ⟨B, 0, none⟩), .int .i64 i, .int .u64 c] w (AddsS w B S m L i c) := by
  have HX := Lib.hid h
  obtain ⟨hst, hm, A, cap, hL, hS⟩ := h
  rcases hcase with ⟨rfl, e⟩ | ⟨hc0, hbig, e⟩
  · have E := Lib.hid e
    clear e hst hL hS
    go_enter Tryz.func117, Tryz.ntmps117
    go_wp2_with fail
    go_ret
    exact adds_same HX.out E.out (by decide) (Below.refl _ _)
  · have E := Lib.hid e
    have c1 := hL.c1
    have c2 := hL.c2
    have hs0 := sumP_pos (ok_pos hst.ok)
    have hs1 := hst.sum
    obtain ⟨t, ht⟩ : ∃ t, sumP L = t := ⟨_, rfl⟩
    rw [ht] at c2 hs0 hs1 hbig
    have P1 : Hid (plus2B t c = false) := Lib.hid (by unfold plus2B; apply decide_eq_false; omega)
    have P2 : Hid (plus2Q t c = 0) := Lib.hid (by unfold plus2Q; rw [P1.out]; rfl)
    have c00 : (c == 0) = false := by simp; omega
    obtain ⟨n, b, hF⟩ : ∃ (n : Nat) (b : Bool), ∀ w', Below w.heap.size w w' → Calls Tryz.prog 132 #[.slice A L.length cap, .int .i64 i] w' fun e w'' => e = .returned (.tuple #[.int .i64 n, .bool b]) ∧ Below w'.heap.size w' w'' :=
      ⟨_, _, fun w' hb => find_big w' A cap L i _ _ (hL.row.pairs.call hb) (by omega) hst.good hi rfl rfl⟩
    have HF := Lib.hid hF
    obtain ⟨hc1, hc2⟩ := hc
    clear e hst hL hS ht hF
    go_enter Tryz.func117, Tryz.ntmps117
    go_wp2_with fail
    refine (plus_two t c 0 false _ _ _ ⟨by omega, by omega⟩ ⟨by omega, by omega⟩ (two_new8 w _ _ _).1 (two_new8 w _ _ _).2 P2.out P1.out).mono ?_
    rintro e w3 ⟨rfl, rfl⟩
    have hb3 : Below w.heap.size w (w.alloc (.cells #[.int .u64 t, .int .u64 c] 22)) := (Below.refl _ _).alloc (Nat.le_refl _) _
    have d1 := cell_later hb3 c1
    have HB3 := Lib.hid hb3
    clear hb3
    go_wp2_with fail
    refine (HF.out _ HB3.out).mono ?_
    rintro e w4 ⟨rfl, hb4⟩
    have HB4 := Lib.hid (HB3.out.trans (hb4.mono HB3.out.size))
    clear hb4 d1
    go_wp2_with fail
    go_quiet (fail)
    go_wp2_with fail
    go_ret
    exact adds_same HX.out E.out (by decide) (below_drewN HB4.out _)

set_option maxRecDepth 100000 in
set_option maxHeartbeats 2000000 in
theorem sadd_full (w : World) (B : Nat) (S : Nat → Prop) (m : Int) (L : List PairV) (i c : Int) (h : StX w B S m L) (hl : L.length ≤ 900) (hi : I64 i) (hc : Word c) (hc0 : 0 < c) (hfit : c ≤ 9223372036854775807 - sumP L) (hf : m < ((addP L i c).length : Int)) (e : stErr m L i c = 6) :
    Calls Tryz.prog 117 #[.pointer (some ⟨B, 0, none⟩), .int .i64 i, .int .u64 c] w (AddsS w B S m L i c) := by
  have HX := Lib.hid h
  obtain ⟨hst, hm, A, cap, hL, hS⟩ := h
  have E := Lib.hid e
  have c0 := hL.c0
  have c1 := hL.c1
  have c2 := hL.c2
  have hs0 := sumP_pos (ok_pos hst.ok)
  have hs1 := hst.sum
  obtain ⟨n, hn, hnl, ⟨hb, _, _, _, hlen⟩ | ⟨hb, _, _, hlen⟩⟩ := good_where i hst.good
  · have h1 := hlen c hc0 (hst.cnt i).1
    have h2 := hst.most
    omega
  have h1 := hlen c hc0
  have k7 : m ≤ (L.length : Int) := by omega
  have k8 : decide (m ≤ (L.length : Int)) = true := decide_eq_true k7
  obtain ⟨t, ht⟩ : ∃ t, sumP L = t := ⟨_, rfl⟩
  rw [ht] at c2 hs0 hs1 hfit
  have P1 : Hid (plus2B t c = true) := Lib.hid (by unfold plus2B; apply decide_eq_true; omega)
  have P2 : Hid (plus2Q t c = t + c) := Lib.hid (by unfold plus2Q; rw [P1.out]; rfl)
  have c00 : (c == 0) = false := by simp; omega
  have hF : ∀ w', Below w.heap.size w w' → Calls Tryz.prog 132 #[.slice A L.length cap, .int .i64 i] w' fun e w'' => e = .returned (.tuple #[.int .i64 n, .bool false]) ∧ Below w'.heap.size w' w'' :=
    fun w' hb' => find_big w' A cap L i _ _ (hL.row.pairs.call hb') (by omega) hst.good hi hn hb
  have HF := Lib.hid hF
  obtain ⟨hc1, hc2⟩ := hc
  obtain ⟨m0, m1⟩ := hm
  clear e hst hL hS ht hF hn hb hlen h1
  go_enter Tryz.func117, Tryz.ntmps117
  go_wp2_with fail
  refine (plus_two t c (t + c) true _ _ _ ⟨by omega, by omega⟩ ⟨by omega, by omega⟩ (two_new8 w _ _ _).1 (two_new8 w _ _ _).2 P2.out P1.out).mono ?_
  rintro e w3 ⟨rfl, rfl⟩
  have hb3 : Below w.heap.size w (w.alloc (.cells #[.int .u64 t, .int .u64 c] 22)) := (Below.refl _ _).alloc (Nat.le_refl _) _
  have d1 := cell_later hb3 c1
  have d0 := cell_later hb3 c0
  have HB3 := Lib.hid hb3
  clear hb3
  go_wp2_with fail
  refine (HF.out _ HB3.out).mono ?_
  rintro e w4 ⟨rfl, hb4⟩
  have g1 := cell_later hb4 d1
  have g0 := cell_later hb4 d0
  have HB4 := Lib.hid (HB3.out.trans (hb4.mono HB3.out.size))
  clear hb4 d1 d0 c0 c1 c2
  go_wp2_with fail
  go_quiet (fail)
  go_wp2_with fail
  go_ret
  exact adds_same HX.out E.out (by decide) (below_drewN HB4.out _)

set_option maxRecDepth 100000 in
set_option maxHeartbeats 2000000 in
theorem sadd_yes (w : World) (B : Nat) (S : Nat → Prop) (m : Int) (L : List PairV) (i c : Int) (h : StX w B S m L) (hl : L.length ≤ 900) (hi : I64 i) (hc : Word c) (hc0 : 0 < c) (hfit : c ≤ 9223372036854775807 - sumP L) (hf : ((addP L i c).length : Int) ≤ m) (e : stErr m L i c = 0) :
    Calls Tryz.prog 117 #[.pointer (some ⟨B, 0, none⟩), .int .i64 i, .int .u64 c] w (AddsS w B S m L i c) := by
  have HST := Lib.hid (stp_add h.1 hi hc)
  have HRW : Hid (stRow m L i c = addP L i c) := Lib.hid (by unfold stRow; rw [if_pos e])
  have HM := Lib.hid h.2.1
  obtain ⟨hst, hm, A, cap, hL, hS⟩ := h
  have E := Lib.hid e
  have c0 := hL.c0
  have c1 := hL.c1
  have c2 := hL.c2
  have hs0 := sumP_pos (ok_pos hst.ok)
  have hs1 := hst.sum
  have hcn := hst.cnt i
  have HSM : Hid (sumP (addP L i c) = sumP L + c) := Lib.hid (add_sum (by omega))
  have HADD : Hid (∀ w', Below w.heap.size w w' → Calls Tryz.prog 133 #[.slice A L.length cap, .int .i64 i, .int .u64 c] w' (AddedV w' A (addP L i c))) := Lib.hid fun w' hb' =>
    addv_any w' A cap L i c (hL.row.call hb') hst.good (by omega) hi hc hc0 (by omega)
  have HL := Lib.hid hL
  have HS := Lib.hid hS
  obtain ⟨n, hn, hnl, hor⟩ := good_where i hst.good
  have hor' : ∃ b : Bool, isP L i = b ∧ (b = true ∨ (b = false ∧ ¬ m ≤ (L.length : Int))) := by
    rcases hor with ⟨hb, _⟩ | ⟨hb, _, _, hlen⟩
    · exact ⟨true, hb, Or.inl rfl⟩
    · have := hlen c hc0
      exact ⟨false, hb, Or.inr ⟨rfl, by omega⟩⟩
  obtain ⟨b, hb, hor2⟩ := hor'
  obtain ⟨t, ht⟩ : ∃ t, sumP L = t := ⟨_, rfl⟩
  rw [ht] at c2 hs0 hs1 hfit HL HSM
  have P1 : Hid (plus2B t c = true) := Lib.hid (by unfold plus2B; apply decide_eq_true; omega)
  have P2 : Hid (plus2Q t c = t + c) := Lib.hid (by unfold plus2Q; rw [P1.out]; rfl)
  have c00 : (c == 0) = false := by simp; omega
  have hF : ∀ w', Below w.heap.size w w' → Calls Tryz.prog 132 #[.slice A L.length cap, .int .i64 i] w' fun e w'' => e = .returned (.tuple #[.int .i64 n, .bool b]) ∧ Below w'.heap.size w' w'' :=
    fun w' hb' => find_big w' A cap L i _ _ (hL.row.pairs.call hb') (by omega) hst.good hi hn hb
  have HF := Lib.hid hF
  have hBw := hL.lt
  obtain ⟨hc1, hc2⟩ := hc
  obtain ⟨m0, m1⟩ := hm
  obtain ⟨i0, i1⟩ := hi
  clear e hst hL hS ht hF hn hb hcn hf hor
  have fin : ∀ w5 w6 A' cap', Below w.heap.size w w5 → Slab w6 A' cap' (addP L i c) → w5.grownBy w6 (blkA A) → (A' = A ∨ ∀ k, blkA A' = some k → w5.heap.size ≤ k) →
      w6.cell? ⟨B, 1, none⟩ = some (.slice A L.length cap) ∧ w6.cell? ⟨B, 2, none⟩ = some (.int .u64 t) ∧ w6.frozen? ⟨B, 1, none⟩ = false ∧ w6.frozen? ⟨B, 2, none⟩ = false ∧
      AddsS w B S m L i c (.returned (.int .i64 0)) ((w6.setCell ⟨B, 1, none⟩ (.slice A' (addP L i c).length cap')).setCell ⟨B, 2, none⟩ (.int .u64 (t + c))) := by
    intro w5 w6 A' cap' hb5 hr hg hor3
    have hL5 := HL.out.call hb5
    have hB6 : w6.heap[B]? = w5.heap[B]? := hg.block B (Nat.lt_of_lt_of_le hBw hb5.size) (fun e => HL.out.ne e.symm rfl)
    have hb6 := hB6.trans hL5.b
    have hne : ∀ k, blkA A' = some k → k ≠ B := fun k hk => by
      rcases hor3 with rfl | hf'
      · exact HL.out.ne hk
      · have := hf' k hk; have := hb5.size; omega
    refine ⟨by rw [Joins.cell_of_block hb6]; rfl, by rw [Joins.cell_of_block hb6]; rfl, free8 hb6 _, free8 hb6 _, fun k => k = B ∨ blkA A' = some k, by rw [E.out], ?_, ?_, ?_⟩
    · rw [HRW.out]
      have hst2 := HST.out
      rw [HRW.out] at hst2
      refine ⟨hst2, HM.out, A', cap', ⟨?_, hr.keep fun k hk => ?_⟩, fun k => Iff.rfl⟩
      · rw [HSM.out]
        exact set_cells8 (set_cells8 hb6 1 _) 2 _
      · rw [Below.heap_setCell _ _ _ _ (hne k hk), Below.heap_setCell _ _ _ _ (hne k hk)]
    · have hk1 : Keeps S w w6 := keeps_grown (grown_trans (grown_of_below8 hb5) hg) fun k hk => (HS.out k).2 (Or.inr hk)
      exact (hk1.set 1 _ (Or.inl ((HS.out B).2 (Or.inl rfl)))).set 2 _ (Or.inl ((HS.out B).2 (Or.inl rfl)))
    · rintro k (rfl | hk)
      · exact Or.inl ((HS.out k).2 (Or.inl rfl))
      · rcases hor3 with rfl | hf'
        · exact Or.inl ((HS.out k).2 (Or.inr hk))
        · exact Or.inr (Nat.le_trans hb5.size (hf' k hk))
  have FIN := Lib.hid fin
  clear fin
  go_enter Tryz.func117, Tryz.ntmps117
  go_wp2_with fail
  refine (plus_two t c (t + c) true _ _ _ ⟨by omega, by omega⟩ ⟨by omega, by omega⟩ (two_new8 w _ _ _).1 (two_new8 w _ _ _).2 P2.out P1.out).mono ?_
  rintro e w3 ⟨rfl, rfl⟩
  have hb3 : Below w.heap.size w (w.alloc (.cells #[.int .u64 t, .int .u64 c] 22)) := (Below.refl _ _).alloc (Nat.le_refl _) _
  have d1 := cell_later hb3 c1
  have d0 := cell_later hb3 c0
  have HB3 := Lib.hid hb3
  clear hb3
  go_wp2_with fail
  refine (HF.out _ HB3.out).mono ?_
  rintro e w4 ⟨rfl, hb4⟩
  have g1 := cell_later hb4 d1
  have g0 := cell_later hb4 d0
  have HB4 := Lib.hid (HB3.out.trans (hb4.mono HB3.out.size))
  clear hb4 d1 d0 c0 c1 c2
  rcases hor2 with rfl | ⟨rfl, k7⟩
  · go_wp2_with fail
    go_quiet (fail)
    go_wp2_with fail
    refine (HADD.out _ (below_drewN HB4.out _)).mono ?_
    rintro e w6 ⟨A', cap', rfl, hr, hg, hor3⟩
    obtain ⟨x1, x2, x3, x4, hfin⟩ := FIN.out _ w6 A' cap' (below_drewN HB4.out _) hr hg hor3
    have HFI := Lib.hid hfin
    clear hfin hr hg hor3
    go_wp2_with fail
    go_ret
    exact HFI.out
  · have k8 : decide (m ≤ (L.length : Int)) = false := decide_eq_false (by omega)
    go_wp2_with fail
    go_quiet (fail)
    go_wp2_with fail
    refine (HADD.out _ (below_drewN HB4.out _)).mono ?_
    rintro e w6 ⟨A', cap', rfl, hr, hg, hor3⟩
    obtain ⟨x1, x2, x3, x4, hfin⟩ := FIN.out _ w6 A' cap' (below_drewN HB4.out _) hr hg hor3
    have HFI := Lib.hid hfin
    clear hfin hr hg hor3
    go_wp2_with fail
    go_ret
    exact HFI.out

theorem sadd_any (w : World) (B : Nat) (S : Nat → Prop) (m : Int) (L : List PairV) (i c : Int) (h : StX w B S m L) (hl : L.length ≤ 900) (hi : I64 i) (hc : Word c) :
    Calls Tryz.prog 117 #[.pointer (some ⟨B, 0, none⟩), .int .i64 i, .int .u64 c] w (AddsS w B S m L i c) := by
  rcases stErr_cases (m := m) (L := L) (i := i) hc with hz | hbig | ⟨h1, h2, h3, e⟩ | ⟨h1, h2, h3, e⟩
  · exact sadd_no w B S m L i c h hl hi hc (Or.inl hz)
  · exact sadd_no w B S m L i c h hl hi hc (Or.inr hbig)
  · exact sadd_full w B S m L i c h hl hi hc h1 h2 h3 e
  · exact sadd_yes w B S m L i c h hl hi hc h1 h2 h3 e
end Go.Proofs.YtdpimbepafgapaaGreat

/-
  Regions that draw their order, whose operations only read, and whose calls leave all that lay there as it was: one walk, in the order of the text. Worlds that have grown from one.
-/
namespace Go.Proofs.YtdpimbepafgapaaGreat
set_option linter.unusedVariables false
set_option linter.unusedSimpArgs false
open Go.RowKit Go.Sort

/-- How a world has grown: so many draws, these blocks. -/
structure GrewP where
  d : Nat
  os : Array Obj
instance : Inhabited GrewP := ⟨⟨0, #[]⟩⟩
def grewTo (w : World) (d : Nat) (os : Array Obj) : World := grow { w with drawn := d } os
theorem below_grewTo (w : World) (d : Nat) (os : Array Obj) : Below w.heap.size w (grewTo w d os) :=
  ⟨rfl, rfl, rfl, by show w.heap.size ≤ (grow _ os).heap.size; rw [size_grow]; show w.heap.size ≤ w.heap.size + _; omega, fun k hk => heap_grow_old { w with drawn := d } os hk⟩
theorem grewTo_of_below {w w' : World} (h : Below w.heap.size w w') : ∃ p : GrewP, w' = grewTo w p.d p.os := by
  refine ⟨⟨w'.drawn, w'.heap.extract w.heap.size w'.heap.size⟩, ?_⟩
  have hs := h.size
  have hh : w'.heap = w.heap ++ w'.heap.extract w.heap.size w'.heap.size := by
    apply Array.ext_getElem?
    intro i
    by_cases hi : i < w.heap.size
    · rw [Array.getElem?_append_left hi]; exact h.block i hi
    · rw [Array.getElem?_append_right (by omega), Array.getElem?_extract]
      by_cases h2 : i < w'.heap.size
      · rw [if_pos (by omega)]; congr 1; omega
      · rw [if_neg (by omega), Array.getElem?_eq_none (by omega)]
  obtain ⟨h1, t1, d1, o1, u1⟩ := w'
  have e1 : t1 = w.tape := h.tape
  have e2 : o1 = w.os := h.os
  have e3 : u1 = w.output := h.output
  subst e1 e2 e3
  simp only at hh
  show (⟨h1, w.tape, d1, w.os, w.output⟩ : World) = ⟨w.heap ++ h1.extract w.heap.size h1.size, w.tape, d1, w.os, w.output⟩
  rw [← hh]
theorem cell_grewTo {w : World} {a : Addr} {v : Value} (h : w.cell? a = some v) (d : Nat) (os : Array Obj) : (grewTo w d os).cell? a = some v := by
  have hlt := World.block_lt_of_cell? (a := a) w h
  exact (World.cell?_of_block ((below_grewTo w d os).block _ hlt)).trans h
/-- A callee that leaves all as it was, in a world that has grown. -/
theorem calls_grew {P : Program} {f : FuncId} {args : Array Value} {w : World} {d : Nat} {os : Array Obj} {v : Value}
    (h : Calls P f args (grewTo w d os) fun e w' => e = .returned v ∧ Below (grewTo w d os).heap.size (grewTo w d os) w') : Calls P f args (grewTo w d os) fun e w'' => e = .returned v ∧ ∃ p : GrewP, w'' = grewTo w p.d p.os :=
  h.mono fun e w' ⟨he, hb⟩ => ⟨he, grewTo_of_below ((below_grewTo w d os).trans (hb.mono (below_grewTo w d os).size))⟩
/-- .. one that leaves the very world. -/
theorem calls_grew_same {P : Program} {f : FuncId} {args : Array Value} {w : World} {d : Nat} {os : Array Obj} {v : Value}
    (h : Calls P f args (grewTo w d os) fun e w' => e = .returned v ∧ grewTo w d os = w') : Calls P f args (grewTo w d os) fun e w'' => e = .returned v ∧ ∃ p : GrewP, w'' = grewTo w p.d p.os :=
  h.mono fun e w' ⟨he, hb⟩ => ⟨he, ⟨d, os⟩, hb.symm⟩

theorem wp_region_grew {P : Program} {id : Nat} {Q : Exit → Act → World → Prop} {a : Act} {w : World} {l : List Oper} (hm : P.follows .mixedOrders = true) (hB : Region.lexB .any l.toArray = true)
    (h : wpQuiet P l.toArray (fun w' => ∃ p : GrewP, w' = grewTo w p.d p.os) (fun a' => ∀ w', (∃ p : GrewP, w' = grewTo w p.d p.os) → Q .normal a' w') l a) : (Code.region id l.toArray true).wp P Q a w :=
  wp_region_quiet (C := fun w' => ∃ p : GrewP, w' = grewTo w p.d p.os) hm hB ⟨⟨w.drawn + 1, #[]⟩, by unfold grewTo; rw [grow_empty]⟩ (by simpa using h)

section
variable {P : Program} {ops : Array Oper} {md : Region.Mode} {C S : World → Prop}
/-- What holds with much held holds with less. -/
theorem wpAnyH_weaken {S' : World → Prop} {Q : Exit → Act → World → Prop} (hS : ∀ w, S' w → S w) : ∀ (fuel : Nat) (listed : Array Bool) (a : Act) (w : World), wpAnyH P md ops Q S' fuel listed a w → wpAnyH P md ops Q S fuel listed a w
  | 0, _, _, _, h => h
  | fuel + 1, _, _, _, h => ⟨h.1, fun i hi => wpOp_mono (fun a' w' h' => ⟨hS _ h'.1, wpAnyH_weaken hS fuel _ a' w' h'.2⟩) (h.2 i hi)⟩
theorem wpAnyH_of_quiet {Q : Act → Prop} {Q' : Exit → Act → World → Prop} (hS : ∀ w, C w → S w) (hQ : ∀ a w, C w → Q a → Q' .normal a w) : ∀ (fuel : Nat) (listed : Array Bool) (a : Act) (w : World), C w →
    wpAnyQ P md ops C Q fuel listed a → wpAnyH P md ops Q' S fuel listed a w
  | 0, _, _, _, hw, h => ⟨h.1, hQ _ _ hw h.2⟩
  | fuel + 1, _, _, _, hw, h => ⟨fun h0 => hQ _ _ hw (h.1 h0), fun i hi => wpOp_of_qOp hw (fun a' w' hw' hh => ⟨hS _ hw', wpAnyH_of_quiet hS hQ fuel _ a' w' hw' hh⟩) (h.2 i hi)⟩
/-- From the midst of a region on: what is left of it, in the order of the text. -/
theorem held_grew {Q : Exit → Act → World → Prop} {l : List Oper} {fuel k : Nat} {listed : Array Bool} {a : Act} {w : World} (hf : l.length = fuel) (hs : Region.noSelect ops = true) (hl : ops.toList.drop k = l) (hB : Region.lexFrom md ops l.length k listed = true)
    (hS : ∀ d os, S (grewTo w d os))
    (h : wpQuiet P ops (fun w' => ∃ p : GrewP, w' = grewTo w p.d p.os) (fun a' => ∀ w', (∃ p : GrewP, w' = grewTo w p.d p.os) → Q .normal a' w') l a) : wpAnyH P md ops Q S fuel listed a w := by
  subst hf
  refine wpAnyH_of_quiet (C := fun w' => ∃ p : GrewP, w' = grewTo w p.d p.os) (fun w' ⟨p, e⟩ => e ▸ hS p.d p.os) (Q := fun a' => ∀ w', (∃ p : GrewP, w' = grewTo w p.d p.os) → Q .normal a' w') (fun _ w' hw' hh => hh w' hw') _ _ _ _ ⟨⟨w.drawn, #[]⟩, by unfold grewTo; rw [grow_empty]⟩ ?_
  refine wpAnyQ_lex hs l k listed a (fun j => ?_) hB h
  rw [← hl, List.getElem?_drop, ← Array.getElem?_toList]
end
end Go.Proofs.YtdpimbepafgapaaGreat

/-
  What the walks of lowcap and of highcap share: cells of a block of three, numbers that go round, boxes, Plus of two, rows that are loaded.
-/
namespace Go.Proofs.YtdpimbepafgapaaGreat
set_option linter.unusedVariables false
set_option linter.unusedSimpArgs false
open Go.RowKit

theorem three_cells {w : World} {B : Nat} {x y z : Value} {t : TypeId} (h : w.heap[B]? = some (.cells #[x, y, z] t (0, 0))) : w.cell? ⟨B, 0, none⟩ = some x ∧ w.cell? ⟨B, 1, none⟩ = some y ∧ w.cell? ⟨B, 2, none⟩ = some z := by
  refine ⟨?_, ?_, ?_⟩ <;> (rw [Joins.cell_of_block h]; rfl)
/-- A number that goes round. -/
def wrU (x : Int) : Int := x % 18446744073709551616
theorem wrU_word (x : Int) : Word (wrU x) := by unfold wrU Word; omega
theorem wrU_id {x : Int} (h : 0 ≤ x) (h2 : x < 18446744073709551616) : wrU x = x := by unfold wrU; omega
theorem wrU_add (x y : Int) : IntKind.u64.wrap (wrU x + y) = wrU (x + y) := by rw [IntKind.wrap_u64]; unfold wrU; omega
theorem fir_drop {K : List PairV} {k : Nat} {p : PairV} (h : K[k]? = some p) : firP (K.drop k) = p := by
  unfold firP
  rw [List.head?_drop, h]; rfl
theorem Keeps.trans {S S1 : Nat → Prop} {w w1 w2 : World} (h : Keeps S w w1) (h1 : Keeps S1 w1 w2) (hS : ∀ k, S1 k → S k ∨ w.heap.size ≤ k) : Keeps S w w2 :=
  ⟨h1.os.trans h.os, h1.tape.trans h.tape, h1.output.trans h.output, Nat.le_trans h.size h1.size, fun k hk hn => (h1.block k (Nat.lt_of_lt_of_le hk h.size) (fun h2 => by rcases hS k h2 with h3 | h3; exact hn h3; omega)).trans (h.block k hk hn)⟩
/-- A pair is laid in a box of its own. -/
theorem box_facts (w4 : World) {B : Nat} {cs : Array Value} {T : TypeId} {v : Value} (hb : w4.heap[B]? = some (.cells cs T (0, 0))) (h2 : w4.cell? ⟨B, 2, none⟩ = some v) (x y : Value) (t : TypeId) :
    ∃ X, w4.alloc (.cells #[x, y] t) = X ∧ Below w4.heap.size w4 X ∧ X.cell? ⟨B, 2, none⟩ = some v ∧ X.frozen? ⟨B, 2, none⟩ = false ∧ X.cell? ⟨w4.heap.size, 0, none⟩ = some x ∧ X.cell? ⟨w4.heap.size, 1, none⟩ = some y := by
  have b : Below w4.heap.size w4 (w4.alloc (.cells #[x, y] t)) := (Below.refl _ _).alloc (Nat.le_refl _) _
  exact ⟨_, rfl, b, cell_later b h2, free8 ((b.block B (lt_of_block hb)).trans hb) 2, (two_new8 w4 x y t).1, (two_new8 w4 x y t).2⟩
/-- Two numbers in a block of their own. -/
theorem two_words (w : World) (x y : Value) (t : TypeId) : (w.alloc (.cells #[x, y] t)).cell? ⟨w.heap.size, 0, none⟩ = some x ∧ (w.alloc (.cells #[x, y] t)).cell? ⟨w.heap.size, 1, none⟩ = some y := two_new8 w x y t
theorem plus2_yes {x y : Int} (h : x + y ≤ 9223372036854775807) : plus2B x y = true ∧ plus2Q x y = x + y := by
  have : plus2B x y = true := by unfold plus2B; apply decide_eq_true; exact h
  exact ⟨this, by unfold plus2Q; rw [this]; rfl⟩
theorem plus2_no {x y : Int} (h : 9223372036854775807 < x + y) : plus2B x y = false ∧ plus2Q x y = 0 := by
  have : plus2B x y = false := by unfold plus2B; apply decide_eq_false; omega
  exact ⟨this, by unfold plus2Q; rw [this]; rfl⟩
theorem good_fir_end {L : List PairV} (hg : GoodP L) : ∀ p, p ∈ L → (firP L).1 ≤ p.1 := by
  intro p hp
  cases L with
  | nil => cases hp
  | cons q r =>
    rcases List.mem_cons.1 hp with rfl | h
    · exact Int.le_refl _
    · have := (List.pairwise_cons.1 hg.2).1 p h; show q.1 ≤ p.1; omega
theorem load_true {m : Int} {L : List PairV} {l : Int} (h : loadB m L l = true) : GoodP L ∧ (L.length : Int) ≤ m ∧ (L = [] → l = 0) ∧ sumP L + l ≤ 9223372036854775807 ∧ (L ≠ [] → endP L - (firP L).1 < m) := by
  unfold loadB at h
  simp only [Bool.and_eq_true, decide_eq_true_eq] at h
  obtain ⟨⟨⟨⟨h1, h2⟩, h3⟩, h4⟩, h5⟩ := h
  exact ⟨goodB_true.1 h1, h2, h3, h4, h5⟩
/-- A pointer laid in a box of its own. -/
theorem ptr_box (w : World) (v : Value) (t : TypeId) : ∃ X, w.alloc (.cells #[v] t) = X ∧ Below w.heap.size w X ∧ X.heap.size = w.heap.size + 1 ∧ X.heap[w.heap.size]? = some (.cells #[v] t (0, 0)) :=
  ⟨_, rfl, (Below.refl _ _).alloc (Nat.le_refl _) _, by simp, heap_alloc_new _ _⟩
theorem one_cell {w : World} {B : Nat} {x : Value} {t : TypeId} (h : w.heap[B]? = some (.cells #[x] t (0, 0))) : w.cell? ⟨B, 0, none⟩ = some x := by
  rw [Joins.cell_of_block h]; rfl
end Go.Proofs.YtdpimbepafgapaaGreat

/-
  How package lowcap lays a lowcap in memory; walks: own, Lost, Most, Total, Pairs, At, Find, under, Below, of a lowcap and of a nil one.
  Walks: package lowcap: Below; drop, put of a lowcap.
-/
namespace Go.Proofs.YtdpimbepafgapaaGreat
set_option linter.unusedVariables false
set_option linter.unusedSimpArgs false
open Go.RowKit

/-- At block B lies a lowcap of m indexes that keeps K, l being lost; S are its blocks. -/
def LowRaw (St : World → Nat → (Nat → Prop) → Int → List PairV → Prop) (w : World) (B : Nat) (S : Nat → Prop) (m : Int) (K : List PairV) (l : Int) : Prop :=
  ∃ C S0, w.heap[B]? = some (.cells #[.int .i64 m, .pointer (some ⟨C, 0, none⟩), .int .u64 l] 173 (0, 0)) ∧ St w C S0 m K ∧ ¬ S0 B ∧ ∀ k, S k ↔ k = B ∨ S0 k
section
variable {St : World → Nat → (Nat → Prop) → Int → List PairV → Prop} (D : StripDoes St)
include D
theorem raw_lt {w : World} {B : Nat} {S : Nat → Prop} {m l : Int} {K : List PairV} (h : LowRaw St w B S m K l) : ∀ k, S k → k < w.heap.size := by
  obtain ⟨C, S0, hb, hst, hn, hS⟩ := h
  intro k hk
  rcases (hS k).1 hk with rfl | h
  · exact lt_of_block hb
  · exact D.lt _ _ _ _ _ hst k h
theorem raw_keep {w w' : World} {B : Nat} {S : Nat → Prop} {m l : Int} {K : List PairV} (h : LowRaw St w B S m K l) (hk : ∀ k, S k → w'.heap[k]? = w.heap[k]?) : LowRaw St w' B S m K l := by
  obtain ⟨C, S0, hb, hst, hn, hS⟩ := h
  exact ⟨C, S0, (hk B ((hS B).2 (Or.inl rfl))).trans hb, D.keep _ _ _ _ _ _ hst (fun k h => hk k ((hS k).2 (Or.inr h))), hn, hS⟩
theorem raw_call {w w' : World} {B : Nat} {S : Nat → Prop} {m l : Int} {K : List PairV} (h : LowRaw St w B S m K l) (hb : Below w.heap.size w w') : LowRaw St w' B S m K l :=
  raw_keep D h fun k hk => hb.block k (raw_lt D h k hk)
theorem raw_cells {w : World} {B : Nat} {S : Nat → Prop} {m l : Int} {K : List PairV} (h : LowRaw St w B S m K l) : ∀ k, S k → ∃ cs t z, w.heap[k]? = some (.cells cs t z) := by
  obtain ⟨C, S0, hb, hst, hn, hS⟩ := h
  intro k hk
  rcases (hS k).1 hk with rfl | h
  · exact ⟨_, _, _, hb⟩
  · exact D.cells _ _ _ _ _ hst k h
/-- The lost ones are counted anew. -/
theorem raw_lost {w : World} {B : Nat} {S : Nat → Prop} {m l : Int} {K : List PairV} (h : LowRaw St w B S m K l) (l' : Int) : LowRaw St (w.setCell ⟨B, 2, none⟩ (.int .u64 l')) B S m K l' := by
  obtain ⟨C, S0, hb, hst, hn, hS⟩ := h
  refine ⟨C, S0, set_cells8 hb 2 _, D.keep _ _ _ _ _ _ hst (fun k hk => Below.heap_setCell _ _ _ _ (by show k ≠ B; rintro rfl; exact hn hk)), hn, hS⟩
end
theorem raw_B {St : World → Nat → (Nat → Prop) → Int → List PairV → Prop} {w : World} {B : Nat} {S : Nat → Prop} {m l : Int} {K : List PairV} (h : LowRaw St w B S m K l) : S B := by
  obtain ⟨C, S0, hb, hst, hn, hS⟩ := h
  exact (hS B).2 (Or.inl rfl)

set_option maxHeartbeats 400000 in
theorem lown_at (w : World) (B : Nat) (v : Value) (h : w.cell? ⟨B, 1, none⟩ = some v) :
    Calls Tryz.prog 111 #[.pointer (some ⟨B, 0, none⟩)] w fun e w' => e = .returned v ∧ w = w' := by
  go_enter Tryz.func111, Tryz.ntmps111
  go_wp2_with fail
  go_ret
  exact ⟨rfl, rfl⟩
set_option maxHeartbeats 400000 in
theorem lown_none (w : World) :
    Calls Tryz.prog 111 #[.pointer none] w fun e w' => e = .returned (.pointer none) ∧ w = w' := by
  go_enter Tryz.func111, Tryz.ntmps111
  go_wp2_with fail
  go_ret
  exact ⟨rfl, rfl⟩

set_option maxHeartbeats 400000 in
theorem llost_at (w : World) (B : Nat) (l : Int) (h : w.cell? ⟨B, 2, none⟩ = some (.int .u64 l)) :
    Calls Tryz.prog 110 #[.pointer (some ⟨B, 0, none⟩)] w fun e w' => e = .returned (.int .u64 l) ∧ w = w' := by
  go_enter Tryz.func110, Tryz.ntmps110
  go_wp2_with fail
  go_ret
  exact ⟨rfl, rfl⟩
set_option maxHeartbeats 400000 in
theorem llost_none (w : World) :
    Calls Tryz.prog 110 #[.pointer none] w fun e w' => e = .returned (.int .u64 0) ∧ w = w' := by
  go_enter Tryz.func110, Tryz.ntmps110
  go_wp2_with fail
  go_ret
  exact ⟨rfl, rfl⟩

set_option maxHeartbeats 400000 in
theorem lmost_at (w : World) (B : Nat) (m : Int) (h : w.cell? ⟨B, 0, none⟩ = some (.int .i64 m)) :
    Calls Tryz.prog 170 #[.pointer (some ⟨B, 0, none⟩)] w fun e w' => e = .returned (.int .i64 m) ∧ w = w' := by
  go_enter Tryz.func170, Tryz.ntmps170
  go_wp2_with fail
  go_ret
  exact ⟨rfl, rfl⟩
set_option maxHeartbeats 400000 in
theorem lmost_none (w : World) :
    Calls Tryz.prog 170 #[.pointer none] w fun e w' => e = .returned (.int .i64 0) ∧ w = w' := by
  go_enter Tryz.func170, Tryz.ntmps170
  go_wp2_with fail
  go_ret
  exact ⟨rfl, rfl⟩

set_option maxHeartbeats 400000 in
theorem lgap_any (a b : Int) (ha : I64 a) (hb : I64 b) (w : World) :
    Calls Tryz.prog 125 #[.int .i64 a, .int .i64 b] w fun e w' => e = .returned (.int .u64 (gap a b)) ∧ w = w' := by
  have H := Lib.hid (gap_any a b ha hb)
  obtain ⟨a0, a1⟩ := ha
  obtain ⟨b0, b1⟩ := hb
  go_enter Tryz.func125, Tryz.ntmps125
  go_wp2_with fail
  refine (H.out _).mono ?_
  rintro e w2 ⟨rfl, rfl⟩
  go_wp2_with fail
  go_ret
  exact ⟨rfl, rfl⟩

/-- What a lowcap, or a nil one, has of its own: a strip, or none. -/
def OwnsL (w : World) (p q : Option Addr) : Prop := ∀ w', Below w.heap.size w w' → Calls Tryz.prog 111 #[.pointer p] w' fun e w'' => e = .returned (.pointer q) ∧ w' = w''
theorem ownsl_at {w : World} {B : Nat} {q : Option Addr} (h : w.cell? ⟨B, 1, none⟩ = some (.pointer q)) : OwnsL w (some ⟨B, 0, none⟩) q := fun w' hb => lown_at w' B _ (cell_later hb h)
theorem ownsl_none (w : World) : OwnsL w none none := fun w' _ => lown_none w'
def LostsL (w : World) (p : Option Addr) (l : Int) : Prop := ∀ w', Below w.heap.size w w' → Calls Tryz.prog 110 #[.pointer p] w' fun e w'' => e = .returned (.int .u64 l) ∧ w' = w''
theorem lostsl_at {w : World} {B : Nat} {l : Int} (h : w.cell? ⟨B, 2, none⟩ = some (.int .u64 l)) : LostsL w (some ⟨B, 0, none⟩) l := fun w' hb => llost_at w' B _ (cell_later hb h)
theorem lostsl_none (w : World) : LostsL w none 0 := fun w' _ => llost_none w'

set_option maxHeartbeats 400000 in
theorem ltotal_of (w : World) (p q : Option Addr) (l s : Int) (h : OwnsL w p q) (hl : LostsL w p l) (hs : Calls Tryz.prog 112 #[.pointer q] w fun e w' => e = .returned (.int .u64 s) ∧ Below w.heap.size w w') (l0 : 0 ≤ l) (s0 : 0 ≤ s) (hb : l + s < 18446744073709551616) :
    Calls Tryz.prog 98 #[.pointer p] w fun e w' => e = .returned (.int .u64 (l + s)) ∧ Below w.heap.size w w' := by
  have H := Lib.hid h
  have HL := Lib.hid hl
  have HS := Lib.hid hs
  clear h hl hs
  go_enter Tryz.func98, Tryz.ntmps98
  go_wp2_with fail
  refine (HL.out _ (Below.refl _ _)).mono ?_
  rintro e w2 ⟨rfl, rfl⟩
  go_wp2_with fail
  refine (H.out _ (Below.refl _ _)).mono ?_
  rintro e w3 ⟨rfl, rfl⟩
  go_wp2_with fail
  refine HS.out.mono ?_
  rintro e w4 ⟨rfl, b4⟩
  go_wp2_with fail
  go_ret
  exact ⟨rfl, b4⟩

set_option maxHeartbeats 400000 in
theorem lpairs_of (w : World) (p q : Option Addr) (R : Ending → World → Prop) (h : OwnsL w p q) (hR : ∀ e w', R e w' → ∃ A n cap, e = .returned (.slice A n cap)) (hs : Calls Tryz.prog 114 #[.pointer q] w R) :
    Calls Tryz.prog 100 #[.pointer p] w R := by
  have H := Lib.hid h
  have HS := Lib.hid hs
  have HR := Lib.hid hR
  clear h hs hR
  go_enter Tryz.func100, Tryz.ntmps100
  go_wp2_with fail
  refine (H.out _ (Below.refl _ _)).mono ?_
  rintro e w3 ⟨rfl, rfl⟩
  go_wp2_with fail
  refine HS.out.mono ?_
  rintro e w4 h4
  obtain ⟨A, n, cap, rfl⟩ := HR.out _ _ h4
  have H4 := Lib.hid h4
  clear h4
  go_wp2_with fail
  exact H4.out

set_option maxHeartbeats 400000 in
theorem lfind_of (w : World) (p q : Option Addr) (l t x : Int) (fb : Bool) (h : OwnsL w p q) (hl : LostsL w p l) (lw : Word l) (ht : Word t) (hz : t ≤ l → x = 0 ∧ fb = false)
    (hs : l < t → Calls Tryz.prog 171 #[.pointer q, .int .u64 (t - l)] w fun e w' => e = .returned (.tuple #[.int .i64 x, .bool fb]) ∧ Below w.heap.size w w') :
    Calls Tryz.prog 169 #[.pointer p, .int .u64 t] w fun e w' => e = .returned (.tuple #[.int .i64 x, .bool fb]) ∧ Below w.heap.size w w' := by
  have H := Lib.hid h
  have HL := Lib.hid hl
  obtain ⟨l0, l1⟩ := lw
  obtain ⟨t0, t1⟩ := ht
  by_cases hc : t ≤ l
  · obtain ⟨rfl, rfl⟩ := hz hc
    clear h hl hs hz
    go_enter Tryz.func169, Tryz.ntmps169
    go_wp2_with fail
    refine (HL.out _ (Below.refl _ _)).mono ?_
    rintro e w2 ⟨rfl, rfl⟩
    go_wp2_with fail
    go_ret2
    exact ⟨rfl, Below.refl _ _⟩
  · have HS := Lib.hid (hs (by omega))
    have hu : IntKind.u64.wrap (t - l) = t - l := by rw [IntKind.wrap_u64]; omega
    clear h hl hs hz
    go_enter Tryz.func169, Tryz.ntmps169
    go_wp2_with fail
    refine (HL.out _ (Below.refl _ _)).mono ?_
    rintro e w2 ⟨rfl, rfl⟩
    go_wp2_with fail
    refine (H.out _ (Below.refl _ _)).mono ?_
    rintro e w3 ⟨rfl, rfl⟩
    go_wp2_with fail
    refine HS.out.mono ?_
    rintro e w4 ⟨rfl, b4⟩
    go_wp2_with fail
    go_ret2
    exact ⟨rfl, b4⟩

/-- How far an index lies below the end. -/
def underV (K : List PairV) (i : Int) : Int := if K ≠ [] ∧ i < endP K then endP K - i else 0
theorem under_word {K : List PairV} {i : Int} (ho : ∀ p, p ∈ K → okP p) (hi : I64 i) : Word (underV K i) := by
  have h1 := end_i64 ho
  unfold I64 at h1 hi
  unfold underV Word
  split <;> omega

set_option maxHeartbeats 1000000 in
theorem lunder_of (w : World) (p q : Option Addr) (K : List PairV) (i : Int) (h : OwnsL w p q) (hi : I64 i) (he : I64 (endP K)) (hf : I64 (firP K).1)
    (hs : Calls Tryz.prog 130 #[.pointer q] w fun e w' => e = .returned (.tuple #[.int .i64 (firP K).1, .int .i64 (lasP K).1, .bool (!K.isEmpty)]) ∧ Below w.heap.size w w') :
    Calls Tryz.prog 115 #[.pointer p, .int .i64 i] w fun e w' => e = .returned (.int .u64 (underV K i)) ∧ Below w.heap.size w w' := by
  have hs' : Calls Tryz.prog 130 #[.pointer q] w fun e w' => e = .returned (.tuple #[.int .i64 (firP K).1, .int .i64 (endP K), .bool (!K.isEmpty)]) ∧ Below w.heap.size w w' := hs
  have HG := Lib.hid (lgap_any i (endP K) hi he)
  have H := Lib.hid h
  obtain ⟨f, hf'⟩ : ∃ f, (firP K).1 = f := ⟨_, rfl⟩
  have hge : ∀ z, endP K = z → i < z → gap i (endP K) = z - i := fun z hz hlt => by unfold gap; rw [hz]; split <;> omega
  rw [hf'] at hs' hf
  by_cases hk : K = []
  · have hu : underV K i = 0 := by unfold underV; rw [if_neg (fun h => h.1 hk)]
    have hb : (!K.isEmpty) = false := by rw [hk]; rfl
    rw [hu]
    rw [hb] at hs'
    obtain ⟨z, hz⟩ : ∃ z, endP K = z := ⟨_, rfl⟩
    rw [hz] at hs' he
    have HS := Lib.hid hs'
    clear h hs hs' hge hz HG hu hb
    go_enter Tryz.func115, Tryz.ntmps115
    go_wp2_with fail
    refine (H.out _ (Below.refl _ _)).mono ?_
    rintro e w3 ⟨rfl, rfl⟩
    go_wp2_with fail
    refine HS.out.mono ?_
    rintro e w4 ⟨rfl, b4⟩
    go_wp2_with fail
    go_ret
    exact ⟨rfl, b4⟩
  · have hb : (!K.isEmpty) = true := by cases K with
      | nil => exact absurd rfl hk
      | cons a b => rfl
    have hu : underV K i = if i < endP K then endP K - i else 0 := by
      unfold underV
      by_cases h1 : i < endP K
      · rw [if_pos ⟨hk, h1⟩, if_pos h1]
      · rw [if_neg (fun h => h1 h.2), if_neg h1]
    rw [hu]
    rw [hb] at hs'
    have hg := hge _ rfl
    rcases lt_or_geI i (endP K) with hlt | hlt
    · rw [if_pos hlt]
      rw [hg hlt] at HG
      obtain ⟨z, hz⟩ : ∃ z, endP K = z := ⟨_, rfl⟩
      rw [hz] at hs' he hlt HG ⊢
      have HS := Lib.hid hs'
      have hlt' : ¬ z ≤ i := by omega
      obtain ⟨z0, z1⟩ := he
      obtain ⟨i0, i1⟩ := hi
      clear h hs hs' hge hz hu hb hg hk
      go_enter Tryz.func115, Tryz.ntmps115
      go_wp2_with fail
      refine (H.out _ (Below.refl _ _)).mono ?_
      rintro e w3 ⟨rfl, rfl⟩
      go_wp2_with fail
      refine HS.out.mono ?_
      rintro e w4 ⟨rfl, b4⟩
      go_wp2_with fail
      refine (HG.out _).mono ?_
      rintro e w5 ⟨rfl, rfl⟩
      go_wp2_with fail
      go_ret
      exact ⟨rfl, b4⟩
    · rw [if_neg (by omega)]
      obtain ⟨z, hz⟩ : ∃ z, endP K = z := ⟨_, rfl⟩
      rw [hz] at hs' he hlt
      have HS := Lib.hid hs'
      obtain ⟨z0, z1⟩ := he
      obtain ⟨i0, i1⟩ := hi
      clear h hs hs' hge hz hu hb hg hk HG
      go_enter Tryz.func115, Tryz.ntmps115
      go_wp2_with fail
      refine (H.out _ (Below.refl _ _)).mono ?_
      rintro e w3 ⟨rfl, rfl⟩
      go_wp2_with fail
      refine HS.out.mono ?_
      rintro e w4 ⟨rfl, b4⟩
      go_wp2_with fail
      go_ret
      exact ⟨rfl, b4⟩
end Go.Proofs.YtdpimbepafgapaaGreat

namespace Go.Proofs.YtdpimbepafgapaaGreat
set_option linter.unusedVariables false
set_option linter.unusedSimpArgs false
open Go.RowKit

/-- How far an index lies below the end, of whatever has such an own strip. -/
def UndersL (w : World) (p : Option Addr) (i u : Int) : Prop := ∀ w', Below w.heap.size w w' → Calls Tryz.prog 115 #[.pointer p, .int .i64 i] w' fun e w'' => e = .returned (.int .u64 u) ∧ Below w'.heap.size w' w''
def MostsL (w : World) (p : Option Addr) (m : Int) : Prop := ∀ w', Below w.heap.size w w' → Calls Tryz.prog 170 #[.pointer p] w' fun e w'' => e = .returned (.int .i64 m) ∧ w' = w''

/-- How a round of drop stands: so many pairs have gone. -/
def DropR (St : World → Nat → (Nat → Prop) → Int → List PairV → Prop) (w : World) (B : Nat) (S : Nat → Prop) (m : Int) (K : List PairV) (l i : Int) (k : Nat) (wr : World) : Prop :=
  ∃ S', LowRaw St wr B S' m (K.drop k) (wrU (l + sumP (K.take k))) ∧ Keeps S w wr ∧ (∀ j, S' j → S j ∨ w.heap.size ≤ j) ∧ ∀ p, p ∈ K.take k → m ≤ gap p.1 i
/-- What drop comes to. -/
def Dropt (St : World → Nat → (Nat → Prop) → Int → List PairV → Prop) (w : World) (B : Nat) (S : Nat → Prop) (m : Int) (K : List PairV) (l i : Int) (w' : World) : Prop :=
  ∃ k, k ≤ K.length ∧ DropR St w B S m K l i k w' ∧ (K.drop k = [] ∨ gap (firP (K.drop k)).1 i < m)
/-- A strip's own call, seen from the lowcap. -/
theorem raw_strip {St : World → Nat → (Nat → Prop) → Int → List PairV → Prop} {w w' : World} {B C : Nat} {S0 S1 : Nat → Prop} {m l : Int} {K : List PairV} (hb : w.heap[B]? = some (.cells #[.int .i64 m, .pointer (some ⟨C, 0, none⟩), .int .u64 l] 173 (0, 0)))
    (hn : ¬ S0 B) (hk : Keeps S0 w w') (hst : St w' C S1 m K) (hS : ∀ k, S1 k → S0 k ∨ w.heap.size ≤ k) : LowRaw St w' B (fun k => k = B ∨ S1 k) m K l := by
  have hlt := lt_of_block hb
  exact ⟨C, S1, (hk.block B hlt hn).trans hb, hst, fun h => by rcases hS B h with h1 | h1; exact hn h1; omega, fun k => Iff.rfl⟩

set_option maxRecDepth 100000 in
set_option maxHeartbeats 4000000 in
theorem ldrop_any {St : World → Nat → (Nat → Prop) → Int → List PairV → Prop} (D : StripDoes St) (w : World) (B : Nat) (S : Nat → Prop) (m : Int) (K : List PairV) (l i : Int) (h : LowRaw St w B S m K l) (hl : K.length ≤ 900) (hi : I64 i) (m1 : 1 ≤ m) (m2 : m ≤ 4096) (lw : Word l) :
    Calls Tryz.prog 116 #[.pointer (some ⟨B, 0, none⟩), .int .i64 i] w fun e w' => e = .returned (.tuple #[]) ∧ Dropt St w B S m K l i w' := by
  obtain ⟨C0, S00, hb0, hst0, _⟩ := id h
  have hok0 := (D.stp _ _ _ _ _ hst0).ok
  have HD := Lib.hid D
  have HO := Lib.hid hok0
  have HL := Lib.hid hl
  have HI := Lib.hid hi
  have H0 : Hid (DropR St w B S m K l i 0 w) := Lib.hid ⟨S, by rw [List.take_zero, List.drop_zero, sumP_nil, Int.add_zero, wrU_id lw.1 lw.2]; exact h, Keeps.refl _ _, fun j hj => Or.inl hj, fun p hp => by rw [List.take_zero] at hp; cases hp⟩
  have e1 : IntKind.u64.wrap m = m := by rw [IntKind.wrap_u64]; omega
  obtain ⟨i0, i1⟩ := hi
  clear D h hl hb0 hst0 hok0
  go_enter Tryz.func116, Tryz.ntmps116
  go_wp2_with fail
  go_loopg [] K.length (fun g wr => ∃ k : Nat, k ≤ K.length ∧ g = K.length - k ∧ DropR St w B S m K l i k wr)
  case atStart => exact ⟨0, Nat.zero_le _, rfl, H0.out⟩
  case round =>
    clear H0
    obtain ⟨k, hk, rfl, hR⟩ := hrel
    obtain ⟨S', hraw, hkp, hSS, hfar⟩ := hR
    have HRAW := Lib.hid hraw
    have HKP := Lib.hid hkp
    have HSS := Lib.hid hSS
    have HF := Lib.hid hfar
    obtain ⟨C, S0, hb, hst, hn, hS⟩ := hraw
    obtain ⟨c0, c1, c2⟩ := three_cells hb
    have HB := Lib.hid hb
    have HST := Lib.hid hst
    have HNB := Lib.hid hn
    have HS := Lib.hid hS
    have hlen : Hid ((K.drop k).length ≤ 900) := Lib.hid (by rw [List.length_drop]; have := HL.out; omega)
    have f2 := free8 hb 2
    clear hb hst hn hS hkp hSS hfar
    by_cases hlt : k < K.length
    · have hxk : K[k]? = some K[k] := List.getElem?_eq_getElem hlt
      generalize hit : K[k] = p at *
      have hok := HO.out p (List.mem_of_getElem? hxk)
      obtain ⟨px, pc⟩ := p
      have hF := fir_drop hxk
      have hE : (!(K.drop k).isEmpty) = true := by
        cases hd : K.drop k with
        | nil => have := congrArg List.length hd; rw [List.length_drop, List.length_nil] at this; omega
        | cons a b => rfl
      have HSTEP : Hid (sumP (K.take (k + 1)) = sumP (K.take k) + pc) := Lib.hid (sum_step' hxk)
      have HEND := Lib.hid (HD.out.ends _ C S0 m _ HST.out hlen.out)
      have HFIR := Lib.hid (HD.out.first _ C S0 m _ HST.out hlen.out)
      rw [hF, hE] at HEND HFIR
      obtain ⟨z, hz⟩ : ∃ z, (lasP (K.drop k)).1 = z := ⟨_, rfl⟩
      rw [hz] at HEND
      obtain ⟨lk, hlk⟩ : ∃ lk, wrU (l + sumP (K.take k)) = lk := ⟨_, rfl⟩
      obtain ⟨lk', hlk'⟩ : ∃ lk', wrU (l + sumP (K.take (k + 1))) = lk' := ⟨_, rfl⟩
      have hlk0 : 0 ≤ lk ∧ lk < 18446744073709551616 := by rw [← hlk]; exact wrU_word _
      have HLK := Lib.hid hlk
      have HLK' := Lib.hid hlk'
      rw [hlk] at c2
      obtain ⟨⟨x0, x1⟩, y0, y1⟩ := hok
      simp only at x0 x1 y0 y1
      have u2 : IntKind.u64.wrap (lk + pc) = lk' := by rw [← hlk, ← hlk', wrU_add, HSTEP.out, Int.add_assoc]
      obtain ⟨d, hd⟩ : ∃ d, gap px i = d := ⟨_, rfl⟩
      have HP : Hid (m ≤ d → ∀ q, q ∈ K.take (k + 1) → m ≤ gap q.1 i) := Lib.hid (fun hle q hq => by
        rw [take_snocP hxk] at hq
        rcases List.mem_append.1 hq with h1 | h1
        · exact HF.out q h1
        · simp at h1; subst h1; rw [hd]; exact hle)
      have HQ : Hid (d < m → gap (firP (K.drop k)).1 i < m) := Lib.hid (fun hlt => by rw [hF, hd]; exact hlt)
      have HTL : Hid ((K.drop k).tail = K.drop (k + 1)) := Lib.hid (by rw [List.tail_drop])
      have HGP : Hid (∀ w, Calls Tryz.prog 125 #[.int .i64 px, .int .i64 i] w fun e w' => e = .returned (.int .u64 d) ∧ w' = w) := Lib.hid (by rw [← hd]; exact fun w => (lgap_any px i ⟨x0, x1⟩ HI.out w).mono fun e w' ⟨h1, h2⟩ => ⟨h1, h2.symm⟩)
      have HFIR' : Hid (∀ w', St w' C S0 m (K.drop k) → Calls Tryz.prog 131 #[.pointer (some ⟨C, 0, none⟩)] w' fun e w'' => ∃ S', e = .returned (.tuple #[.agg #[.int .i64 px, .int .u64 pc], .bool true]) ∧ St w'' C S' m (K.drop (k + 1)) ∧ Keeps S0 w' w'' ∧ (∀ k, S' k → S0 k ∨ w'.heap.size ≤ k)) := Lib.hid (fun w' h => by
        have := HD.out.first w' C S0 m _ h hlen.out
        rw [hF, hE, HTL.out] at this
        exact this)
      clear hit hz hlk hlk' hxk hF hE hd HFIR
      go_wp2_with fail
      refine HEND.out.mono ?_
      rintro e w2 ⟨rfl, b2⟩
      have d0 := cell_later b2 c0
      have d1 := cell_later b2 c1
      have d2 := cell_later b2 c2
      by_cases hdm : d < m
      · have HQ' := Lib.hid (HQ.out hdm)
        clear HP HQ
        go_wp2_with fail
        go_quiet ((go_at_call 125; exact Calls.quiet_of_same (HGP.out _)))
        go_wp2_with fail
        refine bodyPost_ret (results_none rfl _ _ _) rfl ?_
        have b3 : Below wr.heap.size wr (w2.drewN nq) := below_drewN b2 _
        exact ⟨rfl, k, hk, ⟨S', raw_call HD.out HRAW.out b3, HKP.out.trans (Keeps.of_below (S := S') b3) HSS.out, HSS.out, HF.out⟩, Or.inr HQ'.out⟩
      · have HP' := Lib.hid (HP.out (by omega))
        clear HP HQ
        go_wp2_with fail
        go_quiet ((go_at_call 125; exact Calls.quiet_of_same (HGP.out _)))
        have b3 : Below wr.heap.size wr (w2.drewN nq) := below_drewN b2 _
        have HB3 := Lib.hid b3
        go_wp2_with fail
        refine (HFIR'.out _ (HD.out.call HST.out b3)).mono ?_
        rintro e w4 ⟨S1, rfl, hst4, k4, hs4⟩
        have g2 := k4.cell HNB.out (cell_later b3 c2)
        have HST4 := Lib.hid hst4
        have HK4 := Lib.hid k4
        have HS4 := Lib.hid hs4
        clear hst4 k4 hs4 d0 d1 d2
        go_wp2_with fail
        have hb4 := (HK4.out.block B (lt_of_block ((HB3.out.block B (lt_of_block HB.out)).trans HB.out)) HNB.out).trans ((HB3.out.block B (lt_of_block HB.out)).trans HB.out)
        obtain ⟨X, hX, bX, x2, xf, p0, p1⟩ := box_facts w4 hb4 g2 (.int .i64 px) (.int .u64 pc) 114
        rw [hX]
        have HBX := Lib.hid bX
        have HB4 := Lib.hid hb4
        clear hX bX hb4 g2
        go_region
        go_wp2_with fail
        go_roundg (K.length - (k + 1))
        case measure => omega
        case rel =>
          have hr : LowRaw St w4 B (fun k => k = B ∨ S1 k) m (K.drop (k + 1)) lk := raw_strip ((HB3.out.block B (lt_of_block HB.out)).trans (by rw [← HLK.out]; exact HB.out)) HNB.out HK4.out HST4.out HS4.out
          have bx2 : Below w4.heap.size w4 X.drew := HBX.out.drew
          have h1 := raw_lost HD.out (raw_call HD.out hr bx2) lk'
          have hk1 : Keeps S w w4 := (HKP.out.trans (Keeps.of_below (S := S') HB3.out) HSS.out).trans HK4.out (fun j hj => by
            rcases HSS.out j ((HS.out j).2 (Or.inr hj)) with h | h
            · exact Or.inl h
            · exact Or.inr h)
          have hk2 : Keeps S w X.drew := hk1.trans (Keeps.of_below (S := S0) bx2) (fun j hj => by
            rcases HSS.out j ((HS.out j).2 (Or.inr hj)) with h | h
            · exact Or.inl h
            · exact Or.inr h)
          refine ⟨k + 1, by omega, rfl, (fun k => k = B ∨ S1 k), ?_, hk2.set 2 _ (HSS.out B ((HS.out B).2 (Or.inl rfl))), ?_, HP'.out⟩
          · rw [HLK'.out]
            exact h1
          · rintro j (rfl | hj)
            · exact HSS.out _ ((HS.out _).2 (Or.inl rfl))
            · rcases HS4.out j hj with h | h
              · exact HSS.out j ((HS.out j).2 (Or.inr h))
              · have := HB3.out.size; have := HKP.out.size; exact Or.inr (by omega)
    · obtain rfl : k = K.length := by omega
      have hde : K.drop K.length = [] := List.drop_length
      have HDE := Lib.hid hde
      have HEND := Lib.hid (HD.out.ends _ C S0 m _ HST.out hlen.out)
      rw [hde] at HEND
      obtain ⟨z, hz⟩ : ∃ z, (lasP ([] : List PairV)).1 = z := ⟨_, rfl⟩
      obtain ⟨y, hy⟩ : ∃ y, (firP ([] : List PairV)).1 = y := ⟨_, rfl⟩
      rw [hz, hy] at HEND
      clear hz hy hde
      go_wp2_with fail
      refine HEND.out.mono ?_
      rintro e w2 ⟨rfl, b2⟩
      go_wp2_with fail
      go_quiet (fail)
      go_wp2_with fail
      refine bodyPost_ret (results_none rfl _ _ _) rfl ?_
      have b3 : Below wr.heap.size wr (w2.drewN nq) := below_drewN b2 _
      exact ⟨rfl, _, hk, ⟨S', raw_call HD.out HRAW.out b3, HKP.out.trans (Keeps.of_below (S := S') b3) HSS.out, HSS.out, HF.out⟩, Or.inl HDE.out⟩

/-- What comes to a lowcap, that there is room for. -/
theorem put_math {m : Int} {K : List PairV} {l i c : Int} (hm1 : 1 ≤ m) (hg : GoodP K) (ho : ∀ p, p ∈ K → okP p) (hk : keepP m K = K) (hi : I64 i) (hc : 0 < c) (h0 : 0 ≤ l) (hs : l + sumP K + c ≤ 9223372036854775807) (hf : K = [] ∨ endP K - m < i) :
    keepP m (addP K i c) = addP (highP K (i - m)) i c ∧ stErr m (highP K (i - m)) i c = 0 ∧ stRow m (highP K (i - m)) i c = keepP m (addP K i c) ∧ sumP (keepP m (addP K i c)) = sumP (highP K (i - m)) + c ∧ sumP (highP K (i - m)) ≤ sumP K ∧ 0 ≤ sumP (highP K (i - m)) ∧ (highP K (i - m)).length ≤ K.length := by
  have h1 := count_le_sum i (ok_pos ho)
  have e := keep_near (c := c) (by omega) hg hk (by omega) hc hf
  have hp := ok_pos ho
  have hs2 := sumP_filter (fun p : PairV => decide (i - m < p.1)) hp
  have hs3 : sumP (highP K (i - m)) ≤ sumP K ∧ 0 ≤ sumP (highP K (i - m)) := ⟨hs2.2, hs2.1⟩
  have hlen := keep_len (m := m) (L := addP K i c) (by omega) (add_good hg (by omega))
  rw [e] at hlen
  have hq : ∀ p, p ∈ highP K (i - m) → 0 ≤ p.2 := fun p hh => hp p (highP_mem hh).1
  have h2 := count_le_sum i hq
  have hz : stErr m (highP K (i - m)) i c = 0 := by
    unfold stErr
    rw [if_neg (by omega), if_neg (by omega), if_neg (by omega)]
  exact ⟨e, hz, by unfold stRow; rw [if_pos hz, e], by rw [e, add_sum (by omega)], hs3.1, hs3.2, List.length_filter_le _ _⟩

/-- What putting comes to, whatever the numbers. -/
def PutW (St : World → Nat → (Nat → Prop) → Int → List PairV → Prop) (w : World) (B : Nat) (S : Nat → Prop) (m : Int) (K : List PairV) (l i c : Int) (w' : World) : Prop :=
  ∃ S' K' l', LowRaw St w' B S' m K' l' ∧ Keeps S w w' ∧ (∀ j, S' j → S j ∨ w.heap.size ≤ j) ∧ Word l' ∧ K'.length ≤ K.length + 1 ∧
    ((m ≤ underV K i ∧ K' = K ∧ l' = wrU (l + c)) ∨ (underV K i < m ∧ ∃ k, k ≤ K.length ∧ (∀ p, p ∈ K.take k → m ≤ gap p.1 i) ∧ (K.drop k = [] ∨ gap (firP (K.drop k)).1 i < m) ∧ K' = stRow m (K.drop k) i c ∧ l' = wrU (l + sumP (K.take k))))

set_option maxRecDepth 100000 in
set_option maxHeartbeats 4000000 in
theorem lputw_any {St : World → Nat → (Nat → Prop) → Int → List PairV → Prop} (D : StripDoes St) (w : World) (B : Nat) (S : Nat → Prop) (m : Int) (K : List PairV) (l i c : Int) (h : LowRaw St w B S m K l) (hl : K.length ≤ 900) (hi : I64 i) (hc : Word c) (m1 : 1 ≤ m) (m2 : m ≤ 4096) (lw : Word l) :
    Calls Tryz.prog 101 #[.pointer (some ⟨B, 0, none⟩), .int .i64 i, .int .u64 c] w fun e w' => e = .returned (.tuple #[]) ∧ PutW St w B S m K l i c w' := by
  obtain ⟨C, S0, hb, hst, hn, hS⟩ := id h
  have ho := (D.stp _ _ _ _ _ hst).ok
  have hei := end_i64 ho
  obtain ⟨c0, c1, c2⟩ := three_cells hb
  have hu := under_word ho hi
  obtain ⟨u, hu'⟩ : ∃ u, underV K i = u := ⟨_, rfl⟩
  have HUN : Hid (∀ w', Below w.heap.size w w' → Calls Tryz.prog 115 #[.pointer (some ⟨B, 0, none⟩), .int .i64 i] w' fun e w'' => e = .returned (.int .u64 u) ∧ Below w'.heap.size w' w'') := Lib.hid (fun w' hb' => by
    rw [← hu']
    exact lunder_of w' _ _ K i (ownsl_at (cell_later hb' c1)) hi hei (fir_i64 ho) (D.ends _ C S0 m K (D.call hst hb') hl))
  rw [hu'] at hu
  obtain ⟨u0, u1⟩ := hu
  have e1 : IntKind.u64.wrap m = m := by rw [IntKind.wrap_u64]; omega
  have HD := Lib.hid D
  have HRAW := Lib.hid h
  have HB := Lib.hid hb
  have HU := Lib.hid hu'
  have hlt := lt_of_block hb
  have HI := Lib.hid hi
  have HC := Lib.hid hc
  have HLW := Lib.hid lw
  obtain ⟨w0, w1⟩ := hc
  obtain ⟨i0, i1⟩ := hi
  obtain ⟨l0, l1⟩ := lw
  by_cases hfar : m ≤ u
  · have f2 := free8 hb 2
    obtain ⟨l', hl'⟩ : ∃ l', wrU (l + c) = l' := ⟨_, rfl⟩
    have HL' := Lib.hid hl'
    have e2 : IntKind.u64.wrap (l + c) = l' := by rw [← hl', IntKind.wrap_u64]; rfl
    clear D h hl hst hn hS hb hu' hei c1 ho hl'
    go_enter Tryz.func101, Tryz.ntmps101
    go_wp2_with fail
    go_region_held3 (fun w' => w'.cell? ⟨B, 0, none⟩ = some (.int .i64 m) ∧ Below w.heap.size w w')
      (first | exact ⟨by go_simp, (Below.refl _ _).drew⟩ | exact ⟨cell_later hbA (And.left (by assumption)), Below.trans (And.right (by assumption)) (hbA.mono (Below.size (And.right (by assumption))))⟩ | assumption)
      ((go_at_call 115; refine (HUN.out _ (And.right (by assumption))).mono ?_; rintro e wA ⟨rfl, hbA⟩))
    all_goals
      rename_i hHeld
      obtain ⟨g0, bw⟩ := hHeld
      have g2 := cell_later bw c2
      have gf : wA.frozen? ⟨B, 2, none⟩ = false := free8 ((bw.block B hlt).trans HB.out) 2
      have HBW := Lib.hid bw
      clear hbA bw
      go_wp2_with fail
      refine bodyPost_ret (results_none rfl _ _ _) rfl ?_
      refine ⟨rfl, S, K, l', raw_lost HD.out (raw_call HD.out HRAW.out HBW.out) l', (Keeps.of_below HBW.out).set 2 _ (Or.inl (raw_B HRAW.out)), fun j hj => Or.inl hj, by rw [← HL'.out]; exact wrU_word _, Nat.le_succ _, Or.inl ⟨by rw [HU.out]; exact hfar, rfl, HL'.out.symm⟩⟩
  · have HDROP : Hid (∀ w', Below w.heap.size w w' → Calls Tryz.prog 116 #[.pointer (some ⟨B, 0, none⟩), .int .i64 i] w' fun e w'' => e = .returned (.tuple #[]) ∧ Dropt St w' B S m K l i w'') :=
      Lib.hid fun w' hb' => ldrop_any D w' B S m K l i (raw_call D h hb') hl HI.out m1 m2 HLW.out
    have HL := Lib.hid hl
    clear D h hl hst hn hS hb hu' hei c1 c2 ho
    go_enter Tryz.func101, Tryz.ntmps101
    go_wp2_with fail
    go_region_held3 (fun w' => w'.cell? ⟨B, 0, none⟩ = some (.int .i64 m) ∧ Below w.heap.size w w')
      (first | exact ⟨by go_simp, (Below.refl _ _).drew⟩ | exact ⟨cell_later hbA (And.left (by assumption)), Below.trans (And.right (by assumption)) (hbA.mono (Below.size (And.right (by assumption))))⟩ | assumption)
      ((go_at_call 115; refine (HUN.out _ (And.right (by assumption))).mono ?_; rintro e wA ⟨rfl, hbA⟩))
    all_goals
      rename_i hHeld
      obtain ⟨g0, bw⟩ := hHeld
      have HBW := Lib.hid bw
      clear hbA bw
      go_wp2_with fail
      refine (HDROP.out _ HBW.out).mono ?_
      rintro e w3 ⟨rfl, k, hk, ⟨S3, hr3, k3, hs3, hfk⟩, hfir⟩
      obtain ⟨R, hR⟩ : ∃ R, K.drop k = R := ⟨_, rfl⟩
      have hRl : R.length ≤ K.length := by rw [← hR, List.length_drop]; omega
      have HRL := Lib.hid hRl
      obtain ⟨lk, hlk⟩ : ∃ lk, wrU (l + sumP (K.take k)) = lk := ⟨_, rfl⟩
      rw [hlk, hR] at hr3
      have HR := Lib.hid hR
      have HLK := Lib.hid hlk
      have HFK := Lib.hid hfk
      have HFI := Lib.hid hfir
      have HK := Lib.hid hk
      have HK3 := Lib.hid k3
      have HS3 := Lib.hid hs3
      obtain ⟨C3, S4, hb3, hst3, hn3, hSS3⟩ := hr3
      obtain ⟨d0, d1, d2⟩ := three_cells hb3
      have HB3 := Lib.hid hb3
      have HST3 := Lib.hid hst3
      have HN3 := Lib.hid hn3
      have HSS3 := Lib.hid hSS3
      clear hb3 hst3 hn3 hSS3 k3 hs3 g0 d0 d2 hR hlk hfk hfir hRl hk
      go_wp2_with fail
      refine (HD.out.add _ C3 S4 m R i c HST3.out (by have := HRL.out; have := HL.out; omega) HI.out HC.out).mono ?_
      rintro e w5 ⟨S5, rfl, hst5, k5, hs5⟩
      have HST5 := Lib.hid hst5
      clear hst5
      go_wp2_with fail
      refine bodyPost_end (results_none rfl _ _ _) rfl ?_
      have hr5 := raw_strip HB3.out HN3.out k5 HST5.out hs5
      refine ⟨rfl, _, _, lk, hr5, ((Keeps.of_below HBW.out).trans HK3.out (fun j hj => Or.inl hj)).trans k5 ?_, ?_, by rw [← HLK.out]; exact wrU_word _, by have := stRow_len m R i c; have := HRL.out; omega, Or.inr ⟨by rw [HU.out]; omega, k, HK.out, HFK.out, HFI.out, by rw [HR.out], HLK.out.symm⟩⟩
      · intro j hj
        rcases HS3.out j ((HSS3.out j).2 (Or.inr hj)) with h | h
        · exact Or.inl h
        · have := HBW.out.size; exact Or.inr (by omega)
      · rintro j (rfl | hj)
        · rcases HS3.out j ((HSS3.out j).2 (Or.inl rfl)) with h | h
          · exact Or.inl h
          · have := HBW.out.size; exact Or.inr (by omega)
        · rcases hs5 j hj with h | h
          · rcases HS3.out j ((HSS3.out j).2 (Or.inr h)) with h | h
            · exact Or.inl h
            · have := HBW.out.size; exact Or.inr (by omega)
          · have := HBW.out.size; have := HK3.out.size; exact Or.inr (by omega)

/-- .. where there is room. -/
theorem put_eq {m : Int} {K : List PairV} {l i c : Int} {K' : List PairV} {l' : Int} (hcase : (m ≤ underV K i ∧ K' = K ∧ l' = wrU (l + c)) ∨ (underV K i < m ∧ ∃ k, k ≤ K.length ∧ (∀ p, p ∈ K.take k → m ≤ gap p.1 i) ∧ (K.drop k = [] ∨ gap (firP (K.drop k)).1 i < m) ∧ K' = stRow m (K.drop k) i c ∧ l' = wrU (l + sumP (K.take k))))
    (hg : GoodP K) (ho : ∀ p, p ∈ K → okP p) (hkp : keepP m K = K) (hi : I64 i) (hc : 0 < c) (m1 : 1 ≤ m) (l0 : 0 ≤ l) (hs : l + sumP K + c ≤ 9223372036854775807) :
    K' = keepP m (addP K i c) ∧ l' = l + sumP K + c - sumP (keepP m (addP K i c)) := by
  have hsp := sumP_pos (ok_pos ho)
  have hcn := count_le_sum i (ok_pos ho)
  rcases hcase with ⟨h1, rfl, rfl⟩ | ⟨h1, k, hkl, h2, h3, rfl, rfl⟩
  · have hfarK : K' ≠ [] ∧ i ≤ endP K' - m := by
      unfold underV at h1
      split at h1
      · rename_i h1'; exact ⟨h1'.1, by omega⟩
      · omega
    rw [keep_far (c := c) (by omega) hg hkp (by omega) hc hfarK.1 hfarK.2, show l + sumP K' + c - sumP K' = l + c by omega]
    exact ⟨rfl, wrU_id (by omega) (by omega)⟩
  · have hnearK : K = [] ∨ endP K - m < i := by
      unfold underV at h1
      by_cases hk : K = []
      · exact Or.inl hk
      · right
        by_cases h2 : i < endP K
        · rw [if_pos ⟨hk, h2⟩] at h1; omega
        · omega
    have hnear : ∀ p, p ∈ K → p.1 - i < m := fun p hp => by
      have := end_ge hg p hp
      rcases hnearK with h1 | h1
      · rw [h1] at hp; cases hp
      · omega
    obtain ⟨p1, p2, p3, p4, p5, p6, p7⟩ := put_math (c := c) m1 hg ho hkp hi hc l0 hs hnearK
    have e : highP K (i - m) = K.drop k := by
      refine high_drop hg (fun p hp => ?_) ?_
      · have h4 := h2 p hp
        have h5 := hnear p (List.mem_of_mem_take hp)
        unfold gap at h4
        split at h4 <;> omega
      · rcases h3 with h | h
        · exact Or.inl h
        · right
          unfold gap at h
          split at h <;> omega
    have es := sum_high_drop (K := K) (k := k)
    rw [e] at p3 p4 p5 p6
    rw [p3, wrU_id (by omega) (by omega), p4]
    exact ⟨rfl, by omega⟩
theorem putw_strong {St : World → Nat → (Nat → Prop) → Int → List PairV → Prop} {w w' : World} {B : Nat} {S : Nat → Prop} {m : Int} {K : List PairV} {l i c : Int} (h : PutW St w B S m K l i c w') (hg : GoodP K) (ho : ∀ p, p ∈ K → okP p) (hkp : keepP m K = K) (hi : I64 i) (hc : 0 < c) (m1 : 1 ≤ m)
    (l0 : 0 ≤ l) (hs : l + sumP K + c ≤ 9223372036854775807) : ∃ S', LowRaw St w' B S' m (keepP m (addP K i c)) (l + sumP K + c - sumP (keepP m (addP K i c))) ∧ Keeps S w w' ∧ (∀ j, S' j → S j ∨ w.heap.size ≤ j) := by
  obtain ⟨S', K', l', hr, hk, hS, _, _, hcase⟩ := h
  obtain ⟨rfl, rfl⟩ := put_eq hcase hg ho hkp hi hc m1 l0 hs
  exact ⟨S', hr, hk, hS⟩
theorem lput_any {St : World → Nat → (Nat → Prop) → Int → List PairV → Prop} (D : StripDoes St) (w : World) (B : Nat) (S : Nat → Prop) (m : Int) (K : List PairV) (l i c : Int) (h : LowRaw St w B S m K l) (hg : GoodP K) (ho : ∀ p, p ∈ K → okP p) (hkp : keepP m K = K) (hl : K.length ≤ 900) (hi : I64 i) (hc : 0 < c) (m1 : 1 ≤ m) (m2 : m ≤ 4096)
    (l0 : 0 ≤ l) (hs : l + sumP K + c ≤ 9223372036854775807) :
    Calls Tryz.prog 101 #[.pointer (some ⟨B, 0, none⟩), .int .i64 i, .int .u64 c] w fun e w' => e = .returned (.tuple #[]) ∧ ∃ S', LowRaw St w' B S' m (keepP m (addP K i c)) (l + sumP K + c - sumP (keepP m (addP K i c))) ∧ Keeps S w w' ∧ (∀ j, S' j → S j ∨ w.heap.size ≤ j) := by
  have hsp := sumP_pos (ok_pos ho)
  exact (lputw_any D w B S m K l i c h hl hi ⟨by omega, by omega⟩ m1 m2 ⟨l0, by omega⟩).mono fun e w' ⟨h1, h2⟩ => ⟨h1, putw_strong h2 hg ho hkp hi hc m1 l0 hs⟩
end Go.Proofs.YtdpimbepafgapaaGreat

/-
  Walks: the landed code of runs: Good, Total.
-/
namespace Go.Proofs.YtdpimbepafgapaaGreat
set_option linter.unusedVariables false
set_option linter.unusedSimpArgs false
open Go.RowKit

set_option maxRecDepth 100000 in
set_option maxHeartbeats 1000000 in
theorem good_big (w : World) (A : Option Addr) (cap : Nat) (L : List PairV) (most : Int) (b : Bool) (h : Pairs w A L) (hl : L.length ≤ 100000) (hm : I64 most) (hbb : (goodB L && decide ((L.length : Int) ≤ most)) = b) :
    Calls Tryz.prog 123 #[.slice A L.length cap, .int .i64 most] w fun e w' => e = .returned (.bool b) ∧ Below w.heap.size w w' := by
  have HB := Lib.hid hbb
  have HI := Lib.hid h
  obtain ⟨m0, m1⟩ := hm
  clear hbb h
  by_cases hlen : (L.length : Int) ≤ most
  · have q0 : ¬ most < (L.length : Int) := by omega
    have HB2 : Hid (goodB L = b) := Lib.hid (by rw [← HB.out, decide_eq_true hlen, Bool.and_true])
    clear HB hlen
    go_enter Tryz.func123, Tryz.ntmps123
    go_wp2_with fail
    go_loopw [13] (fun j wr => ∃ k : Nat, k ≤ L.length ∧ j = .int .i64 k ∧ GoodP (L.take k) ∧ Below w.heap.size w wr) (fun j _ => L.length - (intOf j).toNat)
    case atStart => exact ⟨0, Nat.zero_le _, rfl, good_nil, Below.refl _ _⟩
    case round =>
      obtain ⟨k, hk, rfl, hg, hb2⟩ := hrel
      have hbs := hb2.size
      by_cases hlt : k < L.length
      · have kk : (k : Int) < L.length := by omega
        have hxk : L[k]? = some L[k] := List.getElem?_eq_getElem hlt
        generalize hit : L[k] = p at *
        have hst := good_step hxk hg
        obtain ⟨px, pc⟩ := p
        obtain ⟨b0, off, rfl, hbl, c0, c1⟩ := (HI.out.call hb2).at_ k _ hxk
        have hok := HI.out.ok _ (List.mem_of_getElem? hxk)
        obtain ⟨⟨o1, o2⟩, o3, o4⟩ := hok
        have HST := Lib.hid hst
        have hneg : ∀ k : Nat, ¬ GoodP (L.take k) → ¬ GoodP L := fun k h hg => h (good_take _ hg)
        have HN := Lib.hid hneg
        simp only at c0 c1 o1 o2 o3 o4 HST
        clear hxk hit hg hst hneg
        by_cases h1 : pc = 0
        · have HE : Hid (b = false) := Lib.hid (by rw [← HB2.out]; exact goodB_false.2 (HN.out (k + 1) (fun hg => by have := (HST.out.1 hg).1; omega)))
          subst h1
          go_wp2_with fail
          go_ret
          exact ⟨by rw [HE.out]; rfl, hb2.alloc hbs _⟩
        · have h1' : (pc == 0) = false := by simpa using h1
          by_cases h2 : 9223372036854775807 < pc
          · have HE : Hid (b = false) := Lib.hid (by rw [← HB2.out]; exact goodB_false.2 (HN.out (k + 1) (fun hg => by have := (HST.out.1 hg).1; omega)))
            go_wp2_with fail
            go_ret
            exact ⟨by rw [HE.out]; rfl, hb2.alloc hbs _⟩
          · by_cases h0 : k = 0
            · subst h0
              simp only [Nat.zero_mul, Nat.add_zero, Nat.zero_add] at c0 c1
              have HG : Hid (GoodP (L.take (0 + 1))) := Lib.hid (HST.out.2 ⟨⟨by omega, by omega⟩, fun h => by omega⟩)
              go_wp2_with fail
              go_quiet (fail)
              go_wp2_with fail
              go_roundw
              case rel => exact ⟨1, by omega, by go_num, HG.out, below_drewM (hb2.alloc hbs _) _⟩
              case measure => simp [intOf]; omega
            · obtain ⟨u, hu⟩ : ∃ u, k = u + 1 := ⟨k - 1, by omega⟩
              have hxu : L[u]? = some L[u] := List.getElem?_eq_getElem (by omega)
              generalize hiu : L[u] = q at *
              obtain ⟨qx, qc⟩ := q
              obtain ⟨b1, off1, ea, hbl1, d0, d1⟩ := (HI.out.call hb2).at_ u _ hxu
              obtain ⟨rfl, rfl⟩ : b0 = b1 ∧ off = off1 := by
                have := Option.some.inj ea
                exact ⟨(Addr.mk.inj this).1, (Addr.mk.inj this).2.1⟩
              simp only at d0 d1
              have u1 : IntKind.i64.wrap ((k : Int) - 1) = (u : Int) := by rw [IntKind.wrap_i64]; omega
              have u2 : (k : Int) - 1 = (u : Int) := by omega
              have u3 : (u : Int) < L.length := by omega
              have k0 : 0 < k := by omega
              have k0d : decide (0 < k) = true := decide_eq_true k0
              have HU : Hid (L[k - 1]? = some (qx, qc)) := Lib.hid (by rw [hu, Nat.add_sub_cancel]; exact hxu)
              have HK := Lib.hid hu
              have hok := HI.out.ok _ (List.mem_of_getElem? hxu)
              clear ea hxu hiu h0 hu
              by_cases h3 : qx < px
              · have HG : Hid (GoodP (L.take (k + 1))) := Lib.hid (HST.out.2 ⟨⟨by omega, by omega⟩, fun h z hz => by rw [HU.out] at hz; have := Option.some.inj hz; rw [← this]; exact h3⟩)
                have h3' : decide (px ≤ qx) = false := decide_eq_false (by omega)
                go_wp2_with fail
                go_quiet (fail)
                go_wp2_with fail
                go_roundw
                case rel => exact ⟨k + 1, by omega, by go_num, HG.out, below_drewM (hb2.alloc hbs _) _⟩
                case measure => simp [intOf]; omega
              · have HE : Hid (b = false) := Lib.hid (by rw [← HB2.out]; exact goodB_false.2 (HN.out (k + 1) (fun hg => h3 ((HST.out.1 hg).2 (by omega) _ HU.out))))
                have h3' : decide (px ≤ qx) = true := decide_eq_true (by omega)
                go_wp2_with fail
                go_quiet (fail)
                go_wp2_with fail
                go_ret
                exact ⟨by rw [HE.out]; rfl, below_drewM (hb2.alloc hbs _) _⟩
      · obtain rfl : k = L.length := by omega
        rw [List.take_length] at hg
        have HE : Hid (b = true) := Lib.hid (by rw [← HB2.out]; exact goodB_true.2 hg)
        have kk : ¬ (L.length : Int) < L.length := by omega
        clear hg
        go_wp2_with fail
        go_ret
        exact ⟨by rw [HE.out]; rfl, hb2⟩
  · have q0 : most < (L.length : Int) := by omega
    have HE : Hid (b = false) := Lib.hid (by rw [← HB.out, decide_eq_false hlen, Bool.and_false])
    clear HB hlen
    go_enter Tryz.func123, Tryz.ntmps123
    go_wp2_with fail
    go_ret
    exact ⟨by rw [HE.out]; rfl, Below.refl _ _⟩
theorem good_does : GoodDoes := fun w A cap L most b h hl hm hbb => good_big w A cap L most b h (by omega) hm hbb

theorem psum_step {L : List PairV} {k : Nat} {p : PairV} (h : L[k]? = some p) : sumP (L.take (k + 1)) = sumP (L.take k) + p.2 := by rw [take_snocP h, sumP_app, sumP_one]

set_option maxRecDepth 100000 in
set_option maxHeartbeats 1000000 in
theorem total_does : TotalDoes := by
  intro w A cap L n b h hl hn hb
  have HI := Lib.hid h
  have HN := Lib.hid hn
  have HB := Lib.hid hb
  have HS := Lib.hid (fun k => sumP_take (L := L) k (ok_pos h.ok))
  clear h hn hb
  go_enter Tryz.func124, Tryz.ntmps124
  go_wp2_with fail
  go_loopw [4, 11] (fun s j wr => ∃ (k : Nat) (m : Int), k ≤ L.length ∧ j = .int .i64 k ∧ s = .int .u64 m ∧ sumP (L.take k) = m ∧ m ≤ 9223372036854775807 ∧ Below w.heap.size w wr) (fun _ j _ => L.length - (intOf j).toNat)
  case atStart => exact ⟨0, 0, Nat.zero_le _, rfl, rfl, rfl, by decide, Below.refl _ _⟩
  case round =>
    obtain ⟨k, m, hk, rfl, rfl, hm, hm1, hb2⟩ := hrel
    have HM := Lib.hid hm
    have m0 := (HS.out k).1
    rw [hm] at m0
    have hbs := hb2.size
    clear hm
    by_cases hlt : k < L.length
    · have kk : (k : Int) < L.length := by omega
      have hxk : L[k]? = some L[k] := List.getElem?_eq_getElem hlt
      generalize hit : L[k] = p at *
      obtain ⟨px, pc⟩ := p
      obtain ⟨b0, off, rfl, hbl, c0, c1⟩ := (HI.out.call hb2).at_ k _ hxk
      have hok := HI.out.ok _ (List.mem_of_getElem? hxk)
      have hst := psum_step hxk
      simp only at c0 c1 hst
      rw [HM.out] at hst
      have s1 := (HS.out (k + 1))
      rw [hst] at s1
      have HST := Lib.hid hst
      have HPC : Hid (Word pc) := Lib.hid hok.2
      obtain ⟨o3, o4⟩ := HPC.out
      obtain ⟨q, hq⟩ : ∃ q, plus2Q m pc = q := ⟨_, rfl⟩
      obtain ⟨ok, hok2⟩ : ∃ ok, plus2B m pc = ok := ⟨_, rfl⟩
      have HQ := Lib.hid hq
      have HOK := Lib.hid hok2
      have HSM := Lib.hid s1
      clear hxk hit hok hst hq hok2 s1
      go_wp2_with fail
      refine (plus_two m pc q ok _ _ _ ⟨by omega, by omega⟩ HPC.out (by go_simp) (by go_simp) HQ.out HOK.out).mono ?_
      rintro e w' ⟨rfl, rfl⟩
      cases ok with
      | true =>
        have HQ2 : Hid (q = m + pc ∧ m + pc ≤ 9223372036854775807) := Lib.hid (by
          have h1 := HOK.out; unfold plus2B at h1
          have h2 := HQ.out; unfold plus2Q plus2B at h2; rw [h1] at h2
          exact ⟨h2.symm, of_decide_eq_true h1⟩)
        go_wp2_with fail
        go_roundw
        case rel => exact ⟨k + 1, q, by omega, by go_num, rfl, by rw [HST.out, HQ2.out.1], by rw [HQ2.out.1]; exact HQ2.out.2, (hb2.alloc hbs _).alloc (by simp; omega) _⟩
        case measure => simp [intOf]; omega
      | false =>
        have HE : Hid (b = false ∧ n = 0) := Lib.hid (by
          have h1 := HOK.out; unfold plus2B at h1
          have h2 := of_decide_eq_false h1
          have h3 := HSM.out.2
          have e : fitsB L = false := by unfold fitsB; apply decide_eq_false; omega
          exact ⟨by rw [← HB.out, e], by rw [← HN.out]; unfold totalP; rw [e]; rfl⟩)
        go_wp2_with fail
        go_ret2
        exact ⟨ret_pair HE.out.2.symm HE.out.1.symm, (hb2.alloc hbs _).alloc (by simp; omega) _⟩
    · obtain rfl : k = L.length := by omega
      rw [List.take_length] at HM
      have HE : Hid (m = n ∧ true = b) := Lib.hid (by
        have e : fitsB L = true := by unfold fitsB; apply decide_eq_true; rw [HM.out]; exact hm1
        exact ⟨by rw [← HN.out, ← HM.out]; unfold totalP; rw [e]; rfl, by rw [← HB.out, e]⟩)
      have kk : ¬ (L.length : Int) < L.length := by omega
      go_wp2_with fail
      go_ret2
      exact ⟨ret_pair HE.out.1 HE.out.2, hb2⟩
end Go.Proofs.YtdpimbepafgapaaGreat
