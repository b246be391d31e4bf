/-
  Texts joined, in build order: TpcN, TpcO, TpcX, GwcX, PairA, Open, TupB, GwO, GwB, TreeM, DigM, GwE, GwD, GwS, GwL, GwN, GwK, GwG, GwJ, GwV.
-/
import Derived.Test.YtfmlkohijkalbaaGreatK3
import Derived.Laws.MakeOwn
import Derived.Test.YtfmlkohijkalbaaGreatRows
import Derived.WalkKit
import Derived.WalkSpells
import Derived.WalkLawsBesides
import Derived.WalkMore
import Derived.LoopTactic
import Derived.OwnWalk
import Derived.OneCell
import Derived.Outline
import Derived.Lib.Strings
import Derived.Deep.Slices
import Derived.Deep.Fields
import Derived.SizedLaws
import Derived.Carry
import Derived.Laws.AppendOwnNone
import Derived.StillTailTactics
import Derived.Deep.QuietTactic
import Derived.BigQuiet
import Derived.ProofKit
import Derived.OpenShut
import Derived.Lib.SmallJoins
import Derived.Lib.AppendZerosOnto
import Derived.Laws.OwnMore
/-
  Walks: the landed package tuples: lay, Merge.
-/
namespace Go.Proofs.YtfmlkohijkalbaaGreat
set_option linter.unusedVariables false
set_option linter.unusedSimpArgs false
open Go.RowKit

/-- How the row that both are laid into lies. -/
structure LayW (w0 w wr : World) (g off capB nB : Nat) (C : List TupV) : Prop where
  slab : SlabT wr (some ⟨g, off, none⟩) capB C
  len : C.length = nB
  below : Below w0.heap.size w0 wr
  grown : w.grownBy wr (some g)
theorem LayW.call {w0 w wr w' : World} {g off capB nB : Nat} {C : List TupV} (h : LayW w0 w wr g off capB nB C) (hb : Below wr.heap.size wr w') : LayW w0 w w' g off capB nB C :=
  ⟨h.slab.call hb, h.len, h.below.trans (hb.mono h.below.size), grown_callT h.grown hb⟩
theorem LayW.gl {w0 w wr : World} {g off capB nB : Nat} {C : List TupV} (h : LayW w0 w wr g off capB nB C) : g < wr.heap.size := h.slab.lt rfl
/-- A block that was made since is written. -/
theorem LayW.putB {w0 w wr : World} {g off capB nB B o : Nat} {C : List TupV} {v : Value} (h : LayW w0 w wr g off capB nB C) (hB : w.heap.size ≤ B) (hB0 : w0.heap.size ≤ B) (hg : B ≠ g) : LayW w0 w (wr.setCell ⟨B, o, none⟩ v) g off capB nB C := by
  have hk : ∀ k, k ≠ B → (wr.setCell ⟨B, o, none⟩ v).heap[k]? = wr.heap[k]? := fun k hk => Below.heap_setCell wr _ _ k hk
  refine ⟨h.slab.keep fun k hk' => hk k ?_, h.len, h.below.setCell (p := ⟨B, o, none⟩) hB0 _, ⟨h.grown.os, h.grown.tape, h.grown.output, Nat.le_trans h.grown.size (by simp [World.setCell]), fun k hkw hne => (hk k (by omega)).trans (h.grown.block k hkw hne)⟩⟩
  cases hk'
  exact fun e => hg e.symm
/-- A tuple is laid. -/
theorem LayW.put3 {w0 w wr : World} {g off capB nB q : Nat} {C : List TupV} {p : TupV} (h : LayW w0 w wr g off capB nB C) (hg : w0.heap.size ≤ g) (hq : q < nB) (ok : okTu p) :
    LayW w0 w (wr.setCells g (off + q * 3) [.int .i64 p.x, .int .u64 p.st, .int .u64 p.sl]) g off capB nB (C.take q ++ p :: C.drop (q + 1)) := by
  have hx : C[q]? = some (C[q]'(by rw [h.len]; omega)) := List.getElem?_eq_getElem _
  generalize C[q]'(by rw [h.len]; omega) = z at hx
  have hC : C = C.take q ++ z :: C.drop (q + 1) := by rw [← drop_is hx, List.take_append_drop]
  have hl : (C.take q).length = q := by rw [List.length_take, h.len]; omega
  have hs := h.slab
  rw [hC] at hs
  have hlen := congrArg List.length hC
  rw [h.len, List.length_append, List.length_cons, hl] at hlen
  have e : wr.setCells g (off + q * 3) [.int .i64 p.x, .int .u64 p.st, .int .u64 p.sl] = ((wr.setCell ⟨g, off + q * 3, none⟩ (.int .i64 p.x)).setCell ⟨g, off + q * 3 + 1, none⟩ (.int .u64 p.st)).setCell ⟨g, off + q * 3 + 2, none⟩ (.int .u64 p.sl) := rfl
  refine ⟨hs.put3 hl ok, by rw [List.length_append, List.length_cons, hl]; omega, ?_, ?_⟩
  · rw [e]
    exact ((h.below.setCell (p := ⟨g, off + q * 3, none⟩) hg _).setCell (p := ⟨g, off + q * 3 + 1, none⟩) hg _).setCell (p := ⟨g, off + q * 3 + 2, none⟩) hg _
  · rw [e]
    exact grown_transT h.grown (grown_transT (grown_transT (grown_put1 _ _ _ _) (grown_put1 _ _ _ _)) (grown_put1 _ _ _ _))
theorem LayW.free {w0 w wr : World} {g off capB nB : Nat} {C : List TupV} (h : LayW w0 w wr g off capB nB C) (o : Nat) : wr.frozen? ⟨g, o, none⟩ = false := by
  rcases h.slab.blk with ⟨e, _⟩ | ⟨g', off', cs, e, hb⟩
  · cases e
  · obtain ⟨rfl, rfl, _⟩ := Addr.mk.inj (Option.some.inj e)
    exact free8T hb _
/-- The cells of one that is laid over. -/
theorem LayW.cells {w0 w wr : World} {g off capB nB q : Nat} {C : List TupV} (h : LayW w0 w wr g off capB nB C) (hq : q < nB) : ∃ x y z, wr.cell? ⟨g, off + q * 3, none⟩ = some x ∧ wr.cell? ⟨g, off + q * 3 + 1, none⟩ = some y ∧ wr.cell? ⟨g, off + q * 3 + 2, none⟩ = some z := by
  have hx : C[q]? = some (C[q]'(by rw [h.len]; omega)) := List.getElem?_eq_getElem _
  obtain ⟨b, o, e, _, c0, c1, c2⟩ := h.slab.pairs.at_ _ _ hx
  obtain ⟨rfl, rfl, _⟩ := Addr.mk.inj (Option.some.inj e)
  exact ⟨_, _, _, c0, c1, c2⟩
/-- What has been laid is laid as merged. -/
def LaidI (same : Bool) (L M R C0 C : List TupV) (i : Nat) : Prop := ∀ m, (C0[m]? = R[m]? ∨ ∃ j p, j < i ∧ L[j]? = some p ∧ m = layI same M j p) → C[m]? = R[m]?
theorem LaidI.zero (same : Bool) (L M R C0 : List TupV) : LaidI same L M R C0 C0 0 := fun m h => by
  rcases h with h | ⟨j, p, hj, _⟩
  · exact h
  · exact absurd hj (Nat.not_lt_zero _)
theorem LaidI.step {same : Bool} {L M R C0 C : List TupV} {i : Nat} {p : TupV} (h : LaidI same L M R C0 C i) (hp : L[i]? = some p) (hq : layI same M i p < C.length) (hR : R[layI same M i p]? = some (layV same M p)) :
    LaidI same L M R C0 (C.take (layI same M i p) ++ layV same M p :: C.drop (layI same M i p + 1)) (i + 1) := by
  intro m hm
  generalize hqe : layI same M i p = q at *
  have hl : (C.take q).length = q := by rw [List.length_take]; omega
  by_cases e : m = q
  · subst e
    rw [List.getElem?_append_right (by omega), hl, Nat.sub_self, hR]
    rfl
  · have hC : (C.take q ++ layV same M p :: C.drop (q + 1))[m]? = C[m]? := by
      rcases Nat.lt_or_ge m q with h1 | h1
      · rw [List.getElem?_append_left (by omega), List.getElem?_take_of_lt h1]
      · rw [List.getElem?_append_right (by omega), hl]
        obtain ⟨t, ht⟩ : ∃ t, m - q = t + 1 := ⟨m - q - 1, by omega⟩
        rw [ht, List.getElem?_cons_succ, List.getElem?_drop, show q + 1 + t = m by omega]
    rw [hC]
    refine h m ?_
    rcases hm with hm | ⟨j, p', hj, hjp, hjm⟩
    · exact Or.inl hm
    · rcases Nat.lt_or_ge j i with h1 | h1
      · exact Or.inr ⟨j, p', h1, hjp, hjm⟩
      · have : j = i := by omega
        subst this
        rw [hp] at hjp
        rw [← Option.some.inj hjp, hqe] at hjm
        exact absurd hjm e
theorem BoxT.grown {w w' : World} {X Z g : Nat} {A : Option Addr} {n cap : Nat} {same : Bool} (h : BoxT w X Z A n cap same) (hX : X ≠ g) (hZ : Z ≠ g) (hg : w.grownBy w' (some g)) : BoxT w' X Z A n cap same :=
  ⟨hg.cell h.cX (fun e => hX (Option.some.inj e)), hg.cell h.cZ (fun e => hZ (Option.some.inj e))⟩

set_option maxRecDepth 100000 in
set_option maxHeartbeats 4000000 in
theorem tlay_any (w0 w : World) (g off capB nB X Z n m cap capM : Nat) (A Bb : Option Addr) (L M R C0 : List TupV) (same : Bool) (hw : LayW w0 w w g off capB nB C0) (hg0 : w0.heap.size ≤ g) (hL : Tups w0 A L) (hM : Tups w0 Bb M) (hn : L.length = n) (hm : M.length = m) (hn1 : n ≤ 10000) (hm1 : m ≤ 10000) (hnB : nB ≤ 20000)
    (gL : GoodT L) (gM : GoodT M) (hbx : BoxT w X Z Bb m capM same) (hXg : X ≠ g) (hZg : Z ≠ g) (hR : R.length = nB) (hlay : ∀ i p, L[i]? = some p → R[layI same M i p]? = some (layV same M p)) :
    Calls Tryz.prog 48 #[.slice (some ⟨g, off, none⟩) nB capB, .slice A n cap, .slice Bb m capM, .func (.func 68) #[] #[.pointer (some ⟨X, 0, none⟩), .pointer (some ⟨Z, 0, none⟩)]] w fun e w' => e = .returned (.tuple #[]) ∧ ∃ C, LayW w0 w w' g off capB nB C ∧ LaidI same L M R C0 C n := by
  have HL := Lib.hid hL
  have HM := Lib.hid hM
  have HN := Lib.hid hn
  have HMN := Lib.hid hm
  have HGL := Lib.hid gL
  have HGM := Lib.hid gM
  have HBX := Lib.hid hbx
  have HLAY := Lib.hid hlay
  have HRL := Lib.hid hR
  have HW := Lib.hid hw
  have HEG : Hid (∀ args w, (callFunc 68 args).run Tryz.prog w = .ok (.enter 68 args) w) := Lib.hid (enters_of Tryz.func68 (by kernel_rfl) rfl)
  clear hL hM hn hm gL gM hbx hlay hR hw
  go_enter Tryz.func48, Tryz.ntmps48
  go_wp2_with fail
  go_loopw [13] (fun jv wr => ∃ (i : Nat) (C : List TupV), i ≤ n ∧ jv = .int .i64 i ∧ LayW w0 w wr g off capB nB C ∧ LaidI same L M R C0 C i) (fun jv _ => n - (intOf jv).toNat)
  case atStart => exact ⟨0, C0, Nat.zero_le _, rfl, HW.out, LaidI.zero _ _ _ _ _⟩
  case round =>
    obtain ⟨i, C, hi, rfl, hlw, hli⟩ := hrel
    have HLW := Lib.hid hlw
    have HLI := Lib.hid hli
    have hbs := hlw.below.size
    have hgs := hlw.gl
    have hws := hlw.grown.size
    clear hlw hli
    by_cases hlt : i < n
    · have kk : (i : Int) < n := by omega
      have hxk := List.getElem?_eq_getElem (l := L) (i := i) (by rw [HN.out]; exact hlt)
      generalize L[i]'(by rw [HN.out]; exact hlt) = p at hxk
      obtain ⟨px, ps, pl⟩ := p
      obtain ⟨b0, o0, rfl, hbl, c0, c1, c2⟩ := (HL.out.call HLW.out.below).at_ i _ hxk
      obtain ⟨g1, g2, g3, g4, g5⟩ := good_at HGL.out hxk
      have hok := HL.out.ok _ (List.mem_of_getElem? hxk)
      obtain ⟨⟨x0, x1⟩, ⟨s0, s1⟩, sl0, sl1⟩ := hok
      simp only at c0 c1 c2 g1 g2 g3 g4 x0 x1 s0 s1 sl0 sl1
      obtain ⟨k, hk⟩ : ∃ k, fromT same px M = k := ⟨_, rfl⟩
      have hkm : k ≤ m := by rw [← hk, ← HMN.out]; exact from_le _ _ _
      obtain ⟨r, hr⟩ : ∃ r, roomT M k = r := ⟨_, rfl⟩
      obtain ⟨r0, r1⟩ := room_range HGM.out k
      rw [hr] at r0 r1
      obtain ⟨q, hq⟩ : ∃ q, layI same M i ⟨px, ps, pl⟩ = q := ⟨_, rfl⟩
      have hqe : i + k = q := by rw [← hq, ← hk]; rfl
      have hlv : layV same M ⟨px, ps, pl⟩ = ⟨px, ps, pl + r⟩ := by rw [← hr, ← hk]; rfl
      have hRq := HLAY.out i _ hxk
      rw [hq, hlv] at hRq
      have hqn : q < nB := by
        rcases Nat.lt_or_ge q nB with h1 | h1
        · exact h1
        · rw [List.getElem?_eq_none (by rw [HRL.out]; exact h1)] at hRq; cases hRq
      have hst := HLI.out.step hxk (by rw [hq, HLW.out.len]; exact hqn) (by rw [hq, hlv]; exact hRq)
      rw [hq, hlv] at hst
      have HST := Lib.hid hst
      have HW1 := Lib.hid (HLW.out.call ((Below.refl wr.heap.size wr).alloc (Nat.le_refl _) (.cells #[.int .i64 px, .int .u64 ps, .int .u64 pl] 75)))
      have HT1 := Lib.hid (Three.new wr (.int .i64 px) (.int .u64 ps) (.int .u64 pl) 75)
      have HFR := Lib.hid (tfrom_any _ X Z capM m k Bb M px same HMN.out (by omega) ⟨x0, x1⟩ (HM.out.call HW1.out.below) HGM.out.sort (HBX.out.grown hXg hZg HW1.out.grown) hk)
      have HRO := Lib.hid (fun (W : World) (hW : Below w0.heap.size w0 W) => troom_any W Bb capM m k M r (HM.out.call hW) HMN.out hkm (by omega) (room_bd HGM.out) hr)
      have a1 : IntKind.u64.wrap (pl + r) = pl + r := by rw [IntKind.wrap_u64]; omega
      have a2 : IntKind.i64.wrap ((i : Int) + (k : Int)) = (q : Int) := by rw [IntKind.wrap_i64]; omega
      have a3 : (q : Int) < (nB : Int) := by omega
      have heg := HEG.out
      clear hst hxk hk hr hq hqe hlv hRq
      go_wp2_with fail
      refine HFR.out.mono ?_
      rintro e w2 ⟨rfl, hb2⟩
      have HW2 := Lib.hid (HW1.out.call hb2)
      have HT2 := Lib.hid (HT1.out.call hb2)
      clear hb2 heg
      have t2 := HT2.out.c2
      have f2 := HT2.out.f2
      have hz2 := HT2.out.lt
      go_wp2_with fail
      go_region_with (go_at_call 66; refine (HRO.out _ (by first | exact HW2.out.below | exact HW2.out.below.drew)).mono ?_; rintro e w3 ⟨rfl, hb3⟩; have hT3 : Three w3 wr.heap.size (.int .i64 px) (.int .u64 ps) (.int .u64 pl) := (by first | exact HT2.out.call hb3 | exact HT2.out.drew.call hb3); have t3 := hT3.c2; have f3 := hT3.f2)
      all_goals
        have HW3 : Hid (LayW w0 w w3 g off capB nB C) := Lib.hid (by first | exact HW2.out.call hb3 | exact HW2.out.call ((Below.refl _ _).drew.trans hb3))
        have HW4 := Lib.hid (HW3.out.putB (B := wr.heap.size) (o := 2) (v := .int .u64 (pl + r)) hws hbs (by omega))
        have HT4 := Lib.hid (hT3.put2 (.int .u64 (pl + r)))
        clear hb3 t3 f3 t2 f2 hT3
        obtain ⟨w4, hw4⟩ : ∃ w4, w3.setCell ⟨wr.heap.size, 2, none⟩ (.int .u64 (pl + r)) = w4 := ⟨_, rfl⟩
        rw [hw4] at HW4 HT4
        rw [hw4]
        clear hw4
        have e0 := HT4.out.c0
        have e1 := HT4.out.c1
        have e2 := HT4.out.c2
        obtain ⟨_, _, _, y0, y1, y2⟩ := HW4.out.cells hqn
        have f0 := HW4.out.free (off + q * 3)
        have f1 := HW4.out.free (off + q * 3 + 1)
        have f2 := HW4.out.free (off + q * 3 + 2)
        have okq : okTu ⟨px, ps, pl + r⟩ := ⟨⟨x0, x1⟩, ⟨s0, s1⟩, (by omega : 0 ≤ pl + r), (by omega : pl + r < 18446744073709551616)⟩
        have HW5 := Lib.hid (HW4.out.put3 hg0 hqn okq)
        clear okq
        go_wp2_with fail
        go_roundw
        case rel => exact ⟨i + 1, _, by omega, by go_num, HW5.out, HST.out⟩
        case measure => simp [intOf]; omega
    · obtain rfl : i = n := by omega
      have kk : ¬ (i : Int) < i := by omega
      go_wp2_with fail
      first
      | (go_end0; exact ⟨rfl, C, HLW.out, HLI.out⟩)
      | exact bodyPost_ret (results_none rfl _ _ _) rfl ⟨rfl, C, HLW.out, HLI.out⟩

theorem made_tuples (n : Nat) : (madeCells (Value.agg #[.int .i64 0, .int .u64 0, .int .u64 0]).cells (n * 3)).toList = cellsTu (List.replicate n ⟨0, 0, 0⟩) := by
  apply List.ext_getElem?
  intro j
  by_cases hj : j < n * 3
  · have h1 : (List.replicate n (⟨0, 0, 0⟩ : TupV))[j / 3]? = some ⟨0, 0, 0⟩ := by rw [List.getElem?_replicate, if_pos (by omega)]
    obtain ⟨q0, q1, q2⟩ := cellsTu_at _ _ _ h1
    have hm : (madeCells (Value.agg #[.int .i64 0, .int .u64 0, .int .u64 0]).cells (n * 3)).toList[j]? = some ((#[Value.int .i64 0, .int .u64 0, .int .u64 0] : Array Value)[j % 3]!) := by
      unfold madeCells
      rw [Array.getElem?_toList, Array.getElem?_map, Array.getElem?_range, if_pos hj]
      simp [Value.cells]
    rw [hm]
    have h3 : j % 3 = 0 ∨ j % 3 = 1 ∨ j % 3 = 2 := by omega
    rcases h3 with e | e | e
    · rw [e, show j = j / 3 * 3 by omega, q0]; rfl
    · rw [e]; conv => rhs; rw [show j = j / 3 * 3 + 1 by omega]
      rw [q1]; rfl
    · rw [e]; conv => rhs; rw [show j = j / 3 * 3 + 2 by omega]
      rw [q2]; rfl
  · rw [List.getElem?_eq_none (by rw [Array.length_toList, size_madeCells]; omega), List.getElem?_eq_none (by rw [cellsTu_len, List.length_replicate]; omega)]
theorem make_tuples (n : Nat) (hn : n ≤ 100000) (w W : World) (hW : w.alloc (.cells (madeCells (Value.agg #[.int .i64 0, .int .u64 0, .int .u64 0]).cells (n * 3)) 75) = W) :
    (Instr.makeSlice 56 (.int .i64 (n : Int)) (.int .i64 (n : Int))).run Tryz.prog w = .ok (.slice (some ⟨w.heap.size, 0, none⟩) n n) W := by
  obtain ⟨i0, hi, hz0, hz1, hz2⟩ := info_parts Tryz.infoOwnTu
  have hr := run_make (P := Tryz.prog) w 56 75 i0 _ Tryz.underlying56 hi hz0 .i64 .i64 (n : Int) (n : Int) (by omega) (Int.le_refl _) (by rw [hz2]; omega) (by omega)
  rw [hz1, Int.toNat_natCast] at hr
  rw [← hW]
  exact hr
theorem slab_made (n : Nat) (hn : n ≤ 100000) (w : World) : SlabT (w.alloc (.cells (madeCells (Value.agg #[.int .i64 0, .int .u64 0, .int .u64 0]).cells (n * 3)) 75)) (some ⟨w.heap.size, 0, none⟩) n (List.replicate n ⟨0, 0, 0⟩) := by
  refine slab_of_cellsT (P := []) (R := []) (fun p hp => ?_) (heap_alloc_new w _) rfl (by rw [made_tuples]; simp) (by simp) (by rw [size_madeCells]; omega) (by unfold maxLen; omega)
  rw [(List.mem_replicate.1 hp).2]
  exact ⟨⟨by decide, by decide⟩, ⟨by decide, by decide⟩, by decide, by decide⟩
theorem LayW.rebase {w0 w wr : World} {g off capB nB : Nat} {C : List TupV} (h : LayW w0 w wr g off capB nB C) : LayW w0 wr wr g off capB nB C := ⟨h.slab, h.len, h.below, grown_reflT _ _⟩

set_option maxRecDepth 100000 in
set_option maxHeartbeats 4000000 in
theorem tmerge_any (w : World) (A Bb : Option Addr) (cap cap' : Nat) (L M : List TupV) (hL : Tups w A L) (hM : Tups w Bb M) (gL : GoodT L) (gM : GoodT M) (hs : sumT L + sumT M ≤ 9223372036854775807) (hl : L.length ≤ 10000) (hl' : M.length ≤ 10000) :
    Calls Tryz.prog 22 #[.slice A L.length cap, .slice Bb M.length cap'] w fun e w' => ∃ v', e = .returned v' ∧ OwnTu w' w.heap.size v' (mergeT L M) ∧ Below w.heap.size w w' := by
  obtain ⟨n, hn⟩ : ∃ n, L.length = n := ⟨_, rfl⟩
  obtain ⟨m, hm⟩ : ∃ m, M.length = m := ⟨_, rfl⟩
  have sL := gL.sort
  have sM := gM.sort
  rw [hn] at hl ⊢
  rw [hm] at hl' ⊢
  have hlen : (mergeT L M).length = n + m := by rw [mergeT_len, hn, hm]
  obtain ⟨N, hN⟩ : ∃ N, n + m = N := ⟨_, rfl⟩
  rw [hN] at hlen
  obtain ⟨W1, hW1⟩ : ∃ W1, w.alloc (.cells (madeCells (Value.agg #[.int .i64 0, .int .u64 0, .int .u64 0]).cells (N * 3)) 75) = W1 := ⟨_, rfl⟩
  have hmk := make_tuples N (by omega) w W1 hW1
  have hb1 : Below w.heap.size w W1 := by rw [← hW1]; exact (Below.refl _ _).alloc (Nat.le_refl _) _
  have hsz : w.heap.size < W1.heap.size := by rw [← hW1]; simp
  have hLW1 : LayW w W1 W1 w.heap.size 0 N N (List.replicate N ⟨0, 0, 0⟩) := ⟨by rw [← hW1]; exact slab_made N (by omega) w, by simp, hb1, grown_reflT _ _⟩
  have HW1 := Lib.hid hLW1
  have HBA := Lib.hid (tbehind_any W1 Bb m cap' true)
  have HBB := Lib.hid (fun W => tbehind_any W A n cap false)
  have HL1 := Lib.hid (fun (W : World) (hW : LayW w W W w.heap.size 0 N N (List.replicate N ⟨0, 0, 0⟩)) (hX : BoxT W W1.heap.size (W1.heap.size + 1) Bb m cap' true) =>
    tlay_any w W w.heap.size 0 N N W1.heap.size (W1.heap.size + 1) n m cap cap' A Bb L M (mergeT L M) (List.replicate N ⟨0, 0, 0⟩) true hW (Nat.le_refl _) hL hM hn hm hl hl' (by omega) gL gM hX (by omega) (by omega) hlen (fun i p hp => lay_a sL sM hp))
  have HL2 := Lib.hid (fun (W W3 : World) (C1 : List TupV) (h3 : w.heap.size < W3.heap.size) (hW : LayW w W W w.heap.size 0 N N C1) (hX : BoxT W W3.heap.size (W3.heap.size + 1) A n cap false) =>
    tlay_any w W w.heap.size 0 N N W3.heap.size (W3.heap.size + 1) m n cap' cap Bb A M L (mergeT L M) C1 false hW (Nat.le_refl _) hM hL hm hn hl' hl (by omega) gM gL hX (by omega) (by omega) hlen (fun i p hp => lay_b sL sM hp))
  have HALL : Hid (∀ C1 C2, C2.length = N → LaidI true L M (mergeT L M) (List.replicate N ⟨0, 0, 0⟩) C1 n → LaidI false M L (mergeT L M) C1 C2 m → C2 = mergeT L M) := Lib.hid fun C1 C2 hc h1 h2 => by
    refine lay_all sL sM (by rw [hc, hn, hm, hN]) (fun i p hp => h2 _ (Or.inl (h1 _ (Or.inr ⟨i, p, ?_, hp, rfl⟩)))) (fun i p hp => h2 _ (Or.inr ⟨i, p, ?_, hp, rfl⟩))
    · rcases Nat.lt_or_ge i L.length with h | h
      · omega
      · rw [List.getElem?_eq_none h] at hp; cases hp
    · rcases Nat.lt_or_ge i M.length with h | h
      · omega
      · rw [List.getElem?_eq_none h] at hp; cases hp
  have a1 : IntKind.i64.wrap ((n : Int) + (m : Int)) = (N : Int) := by rw [IntKind.wrap_i64]; omega
  have HN := Lib.hid hN
  generalize mergeT L M = R at *
  clear hL hM gL gM hs hn hm hl hl' sL sM hlen hN hb1 hLW1 hW1
  go_enter Tryz.func22, Tryz.ntmps22
  go_wp2_with fail
  refine HBA.out.mono ?_
  rintro e w2 ⟨rfl, hX2, hb2⟩
  have HX2 := Lib.hid hX2
  have HW2 := Lib.hid ((HW1.out.call hb2).rebase)
  clear hX2 hb2
  go_wp2_with fail
  refine (HL1.out w2 HW2.out HX2.out).mono ?_
  rintro e w3 ⟨rfl, C1, hW3, hI3⟩
  have HW3 := Lib.hid hW3
  have HI3 := Lib.hid hI3
  have hz3 := hW3.gl
  clear hW3 hI3
  go_wp2_with fail
  refine (HBB.out w3).mono ?_
  rintro e w4 ⟨rfl, hX4, hb4⟩
  have HX4 := Lib.hid hX4
  have HW4 := Lib.hid ((HW3.out.call hb4).rebase)
  clear hX4 hb4
  go_wp2_with fail
  refine (HL2.out w4 w3 C1 hz3 HW4.out HX4.out).mono ?_
  rintro e w5 ⟨rfl, C2, hW5, hI5⟩
  have hC2 := HALL.out C1 C2 hW5.len HI3.out hI5
  have hown := own_of_slabT (base := w.heap.size) hW5.slab (Nat.le_refl _)
  rw [hW5.len, hC2] at hown
  have HF := Lib.hid (⟨hown, hW5.below⟩ : OwnTu w5 w.heap.size (.slice (some ⟨w.heap.size, 0, none⟩) N N) R ∧ Below w.heap.size w w5)
  clear hown hC2 hW5 hI5
  go_wp2_with fail
  go_ret
  exact ⟨_, rfl, HF.out⟩
end Go.Proofs.YtfmlkohijkalbaaGreat

/-
  Walks: the landed package tuples: Find, Rank.
-/
namespace Go.Proofs.YtfmlkohijkalbaaGreat
set_option linter.unusedVariables false
set_option linter.unusedSimpArgs false
open Go.RowKit

/-- The closest one so far. -/
structure FindI (t : Int) (L : List TupV) (k : Nat) (x l : Int) : Prop where
  none_ : k = 0 → x = 0 ∧ l = 0
  some_ : 0 < k → ∃ c, closeS t none (spotsT 0 (L.take k)) = some c ∧ x = c.x ∧ l = farS t c
theorem FindI.zero (t : Int) (L : List TupV) : FindI t L 0 0 0 := ⟨fun _ => ⟨rfl, rfl⟩, fun h => absurd h (Nat.lt_irrefl _)⟩
theorem find_close {t : Int} {L : List TupV} {k : Nat} {p : TupV} (hp : L[k]? = some p) : closeS t none (spotsT 0 (L.take (k + 1))) = pickS t (closeS t none (spotsT 0 (L.take k))) ⟨p.x, sumT (L.take k) + p.st, sumT (L.take k) + p.st + p.sl⟩ := by
  rw [(spots_step hp).1, bef_lo, close_snoc]
theorem FindI.first {t : Int} {L : List TupV} {p : TupV} (hp : L[0]? = some p) {d : Int} (hd : max (t - (sumT (L.take 0) + p.st)) (sumT (L.take 0) + p.st + p.sl - t) = d) : FindI t L 1 p.x d := by
  refine ⟨fun h => absurd h (by omega), fun _ => ⟨⟨p.x, sumT (L.take 0) + p.st, sumT (L.take 0) + p.st + p.sl⟩, ?_, rfl, hd.symm⟩⟩
  rw [find_close hp]
  rfl
theorem FindI.better {t x l d : Int} {L : List TupV} {k : Nat} {p : TupV} (h : FindI t L k x l) (hk : 0 < k) (hp : L[k]? = some p) (hd : max (t - (sumT (L.take k) + p.st)) (sumT (L.take k) + p.st + p.sl - t) = d) (hlt : d < l) : FindI t L (k + 1) p.x d := by
  obtain ⟨c, h1, h2, h3⟩ := h.some_ hk
  refine ⟨fun h => absurd h (by omega), fun _ => ⟨⟨p.x, sumT (L.take k) + p.st, sumT (L.take k) + p.st + p.sl⟩, ?_, rfl, hd.symm⟩⟩
  rw [find_close hp, h1]
  show some (if farS t ⟨p.x, sumT (L.take k) + p.st, sumT (L.take k) + p.st + p.sl⟩ < farS t c then _ else _) = _
  have e : farS t ⟨p.x, sumT (L.take k) + p.st, sumT (L.take k) + p.st + p.sl⟩ = d := hd
  rw [if_pos (by rw [e]; omega)]
theorem FindI.worse {t x l d : Int} {L : List TupV} {k : Nat} {p : TupV} (h : FindI t L k x l) (hk : 0 < k) (hp : L[k]? = some p) (hd : max (t - (sumT (L.take k) + p.st)) (sumT (L.take k) + p.st + p.sl - t) = d) (hlt : ¬ d < l) : FindI t L (k + 1) x l := by
  obtain ⟨c, h1, h2, h3⟩ := h.some_ hk
  refine ⟨fun h => absurd h (by omega), fun _ => ⟨c, ?_, h2, h3⟩⟩
  rw [find_close hp, h1]
  show some (if farS t ⟨p.x, sumT (L.take k) + p.st, sumT (L.take k) + p.st + p.sl⟩ < farS t c then _ else _) = _
  have e : farS t ⟨p.x, sumT (L.take k) + p.st, sumT (L.take k) + p.st + p.sl⟩ = d := hd
  rw [if_neg (by rw [e]; omega)]
theorem FindI.end_ {t x l : Int} {L : List TupV} {n : Nat} (h : FindI t L n x l) (hn : L.length = n) : x = findX t L := by
  unfold findX
  rcases Nat.eq_zero_or_pos n with e | e
  · have h1 := (h.none_ e).1
    have : L = [] := List.eq_nil_of_length_eq_zero (by omega)
    rw [this, h1]; rfl
  · obtain ⟨c, h1, h2, _⟩ := h.some_ e
    rw [List.take_of_length_le (by omega)] at h1
    rw [h1, h2]
theorem gap_max {a b t : Int} (hab : a ≤ b) : max (if t < a then 0 else t - a) (if b < t then 0 else b - t) = max (t - a) (b - t) := by
  by_cases c : t < a
  · rw [if_pos c]
    by_cases d : b < t
    · omega
    · rw [if_neg d]; omega
  · rw [if_neg c]
    by_cases d : b < t
    · rw [if_pos d]; omega
    · rw [if_neg d]

set_option maxRecDepth 100000 in
set_option maxHeartbeats 2000000 in
theorem tfind_any (w : World) (A : Option Addr) (cap : Nat) (L : List TupV) (t : Int) (h : Tups w A L) (hl : L.length ≤ 20000) (hg : GoodT L) (ht : Word t) :
    Calls Tryz.prog 40 #[.slice A L.length cap, .int .u64 t] w fun e w' => e = .returned (.tuple #[.int .i64 (findX t L), .bool (!L.isEmpty)]) ∧ Below w.heap.size w w' := by
  have HI := Lib.hid h
  have HG := Lib.hid hg
  obtain ⟨N, hN⟩ : ∃ N, L.length = N := ⟨_, rfl⟩
  obtain ⟨fx, hfx⟩ : ∃ x, findX t L = x := ⟨_, rfl⟩
  obtain ⟨ok, hok⟩ : ∃ b, (!L.isEmpty) = b := ⟨_, rfl⟩
  have HOK : Hid (decide (0 < N) = ok) := Lib.hid (by
    rw [← hok, ← hN]
    cases L with
    | nil => rfl
    | cons p r => simp)
  rw [hfx, hok, hN]
  have HN := Lib.hid hN
  have HFX := Lib.hid hfx
  have hl2 : N ≤ 20000 := by omega
  obtain ⟨t0, t1⟩ := ht
  clear h hg hl hN hfx hok
  go_enter Tryz.func40, Tryz.ntmps40
  go_wp2_with fail
  go_loopw [6, 7, 8, 14] (fun xv pv lv jv wr => ∃ (k : Nat) (x m l : Int), k ≤ N ∧ jv = .int .i64 k ∧ xv = .int .i64 x ∧ pv = .int .u64 m ∧ lv = .int .u64 l ∧ sumT (L.take k) = m ∧ FindI t L k x l ∧ Word l ∧ Below w.heap.size w wr) (fun _ _ _ jv _ => N - (intOf jv).toNat)
  case atStart => exact ⟨0, 0, 0, 0, Nat.zero_le _, rfl, rfl, rfl, rfl, rfl, FindI.zero t L, by unfold Word; omega, Below.refl _ _⟩
  case round =>
    obtain ⟨k, x, m, l, hk, rfl, rfl, rfl, rfl, hm, hf, hlw, hb2⟩ := hrel
    have HM := Lib.hid hm
    have HF := Lib.hid hf
    have HB := Lib.hid hb2
    have hbs := hb2.size
    have HLW := Lib.hid hlw
    obtain ⟨lw0, lw1⟩ := hlw
    clear hm hf hb2
    by_cases hlt : k < N
    · have kk : (k : Int) < N := by omega
      have hxk := List.getElem?_eq_getElem (l := L) (i := k) (by rw [HN.out]; exact hlt)
      generalize L[k]'(by rw [HN.out]; exact hlt) = p at hxk
      obtain ⟨px, ps, pl⟩ := p
      obtain ⟨b0, off, rfl, hbl, c0, c1, c2⟩ := (HI.out.call HB.out).at_ k _ hxk
      obtain ⟨g1, g2, g3, g4, g5⟩ := good_at HG.out hxk
      have hst := sumT_step hxk
      simp only at c0 c1 c2 g1 g2 g3 g4 hst
      rw [HM.out] at g1 g2 g5 hst
      have HST := Lib.hid hst
      have HXK := Lib.hid hxk
      have HBN : Hid (Below w.heap.size w (wr.alloc (.cells #[.int .i64 px, .int .u64 ps, .int .u64 pl] 75))) := Lib.hid (HB.out.alloc hbs _)
      have u1 : IntKind.u64.wrap (m + ps) = m + ps := by rw [IntKind.wrap_u64]; omega
      have u2 : IntKind.u64.wrap (m + ps + pl) = m + ps + pl := by rw [IntKind.wrap_u64]; omega
      obtain ⟨ga, hga⟩ : ∃ g, (if t < m + ps then 0 else t - (m + ps)) = g := ⟨_, rfl⟩
      obtain ⟨gb, hgb⟩ : ∃ g, (if m + ps + pl < t then 0 else m + ps + pl - t) = g := ⟨_, rfl⟩
      have HA := Lib.hid (fun W => tgap_any W (m + ps) t ga ⟨by omega, by omega⟩ ⟨t0, t1⟩ hga)
      have HBB := Lib.hid (fun W => tgap_any W t (m + ps + pl) gb ⟨t0, t1⟩ ⟨by omega, by omega⟩ hgb)
      obtain ⟨d, hd⟩ : ∃ d, max ga gb = d := ⟨_, rfl⟩
      have hdd : max (t - (sumT (L.take k) + ps)) (sumT (L.take k) + ps + pl - t) = d := by rw [HM.out, ← hd, ← hga, ← hgb, gap_max (by omega)]
      have hdw : 0 ≤ d ∧ d < 18446744073709551616 := by rw [HM.out] at hdd; omega
      have HD := Lib.hid hdd
      obtain ⟨d0, d1⟩ := hdw
      clear hst hxk hdd hga hgb
      go_wp2_with fail
      go_quiet ((go_at_call 58; first | (with_reducible exact Calls.quiet_of_same (HA.out _)) | (with_reducible exact Calls.quiet_of_same (HBB.out _))))
      rename_i nq
      have HBQ : Hid (Below w.heap.size w ((wr.alloc (.cells #[.int .i64 px, .int .u64 ps, .int .u64 pl] 75)).drewN nq)) := Lib.hid (below_drewT HBN.out _)
      by_cases k0 : k = 0
      · have e1 : ((k : Int) == 0) = true := by simp [k0]
        have HF1 : Hid (FindI t L (k + 1) px d) := Lib.hid (by
          subst k0
          exact FindI.first HXK.out HD.out)
        clear k0
        go_wp2_with fail
        go_roundw
        case rel => exact ⟨k + 1, px, m + ps, d, by omega, by go_num, rfl, rfl, rfl, HST.out, HF1.out, ⟨d0, d1⟩, HBQ.out⟩
        case measure => simp [intOf]; omega
      · have e1 : ((k : Int) == 0) = false := by rw [beq_eq_false_iff_ne]; omega
        by_cases hdl : d < l
        · have e2 : decide (d < l) = true := decide_eq_true hdl
          have HF1 : Hid (FindI t L (k + 1) px d) := Lib.hid (HF.out.better (by omega) HXK.out HD.out hdl)
          clear k0
          go_wp2_with fail
          go_roundw
          case rel => exact ⟨k + 1, px, m + ps, d, by omega, by go_num, rfl, rfl, rfl, HST.out, HF1.out, ⟨d0, d1⟩, HBQ.out⟩
          case measure => simp [intOf]; omega
        · have e2 : decide (d < l) = false := decide_eq_false hdl
          have HF1 : Hid (FindI t L (k + 1) x l) := Lib.hid (HF.out.worse (by omega) HXK.out HD.out hdl)
          clear k0
          go_wp2_with fail
          go_roundw
          case rel => exact ⟨k + 1, x, m + ps, l, by omega, by go_num, rfl, rfl, rfl, HST.out, HF1.out, HLW.out, HBQ.out⟩
          case measure => simp [intOf]; omega
    · obtain rfl : k = N := by omega
      have HE : Hid (x = fx) := Lib.hid (by rw [← HFX.out]; exact HF.out.end_ HN.out)
      have kk : ¬ (k : Int) < k := by omega
      by_cases k0 : 0 < k
      · have e1 : decide (0 < k) = true := decide_eq_true k0
        have e2 : decide ((0 : Int) < (k : Int)) = true := decide_eq_true (by omega)
        have HO : Hid (true = ok) := Lib.hid (by rw [← HOK.out, e1])
        go_wp2_with fail
        go_ret2
        exact ⟨ret_pair HE.out HO.out, HB.out⟩
      · have e1 : decide (0 < k) = false := decide_eq_false k0
        have e2 : decide ((0 : Int) < (k : Int)) = false := decide_eq_false (by omega)
        have HO : Hid (false = ok) := Lib.hid (by rw [← HOK.out, e1])
        go_wp2_with fail
        go_ret2
        exact ⟨ret_pair HE.out HO.out, HB.out⟩

end Go.Proofs.YtfmlkohijkalbaaGreat
/-
  The landed package tuples does what it is to do.
-/
namespace Go.Proofs.YtfmlkohijkalbaaGreat
set_option linter.unusedVariables false
set_option linter.unusedSimpArgs false
open Go.RowKit

theorem tup_does : TupDoes where
  good := tgood_any
  total := ttotal_any
  limit := tlimit_any
  insert := tinsert_any
  squeeze := tsqueeze_any
  merge := tmerge_any
  find := tfind_any
end Go.Proofs.YtfmlkohijkalbaaGreat

/-
  The landed package greenwald does what it is to do.
-/
namespace Go.Proofs.YtfmlkohijkalbaaGreat
set_option linter.unusedVariables false
set_option linter.unusedSimpArgs false
open Go.RowKit

theorem gwx_of {w w' : World} {B : Nat} {u v n : Int} {vr vw : Value} {s : GwV} {e : Int × Int × Bool} (ha : GoodA u v) (ok : OkX s) (hf : s.2.length < 16) (he : EndG s e) (hn : totG s = n) (h : LeftX w B u v vr vw s.1 s.2 n w') : ∃ S', GwX w' B S' u v s e ∧ Keeps (rgS B vr vw) w w' ∧ ∀ i, S' i → rgS B vr vw i ∨ w.heap.size ≤ i := by
  obtain ⟨v1, v2, h1, h2, h3⟩ := h
  exact ⟨_, ⟨ha, ok, hf, he, v1, v2, by rw [hn]; exact h1, rfl⟩, h2, h3⟩
theorem flush_few {u v : Int} {s : GwV} (ok : OkX s) : (flushG u v s).2.length < 16 := by rw [(OkX.flush (u := u) (v := v) ok).2.2.2]; decide

theorem gw_does : GwDoes GwX where
  keep w w' B S u v s e h hk := by
    obtain ⟨h1, h2, h3, h4, vr, vw, h5, rfl⟩ := h
    exact ⟨h1, h2, h3, h4, vr, vw, h5.at_ hk, rfl⟩
  lt w B S u v s e h := by
    obtain ⟨h1, h2, h3, h4, vr, vw, h5, rfl⟩ := h
    exact h5.blocks
  good := gw_good
  new w u v ha := by
    have u1 := ha.u1
    have uv := ha.uv
    have v2 := ha.v2
    refine gw_new_to w u v _ ?_
    refine (gw_load tup_does (w.alloc (.cells #[.int .u64 u, .int .u64 v] 24)) u v none 0 [] none 0 [] (by unfold Word; omega) (by unfold Word; omega) (Tups.nil _ _) (Nums.nil _ _) (by decide) (by decide) (fun _ => by decide) ⟨ha, ⟨by decide, rfl, FirstS.nil⟩, by decide, fun p hp => by cases hp⟩).mono ?_
    rintro r w' ⟨B, S, e, rfl, hx, hS, hb⟩
    have b0 : Below w.heap.size w (w.alloc (.cells #[.int .u64 u, .int .u64 v] 24)) := (Below.refl _ _).alloc (Nat.le_refl _) _
    have he : e = (0, 0, false) := by
      rcases hx.2.2.2.1 with ⟨_, h⟩ | ⟨h, _⟩
      · exact h
      · cases h
    rw [he] at hx
    exact ⟨_, _, rfl, B, S, rfl, hx, fun i hi => Nat.le_trans b0.size (hS i hi), b0.trans (hb.mono b0.size)⟩
  bad w a b ha hb h := by
    refine gw_new_to w a b _ ?_
    refine (gw_load_c1 (w.alloc (.cells #[.int .u64 a, .int .u64 b] 24)) a b _ _ ha hb h).mono ?_
    rintro e w' ⟨rfl, hb⟩
    have b0 : Below w.heap.size w (w.alloc (.cells #[.int .u64 a, .int .u64 b] 24)) := (Below.refl _ _).alloc (Nat.le_refl _) _
    exact ⟨_, _, rfl, rfl, b0.trans (hb.mono b0.size)⟩
  total w B S u v s e h := by
    obtain ⟨h1, h2, h3, h4, vr, vw, h5, rfl⟩ := h
    exact gw_total h5.c4
  flush w B S u v s e h := by
    obtain ⟨h1, h2, h3, h4, vr, vw, h5, rfl⟩ := h
    refine (gw_flush tup_does h5 h2 rfl h1).mono ?_
    rintro r w' ⟨rfl, hL⟩
    have ho := OkX.flush (u := u) (v := v) h2
    obtain ⟨S', k1, k2, k3⟩ := gwx_of h1 ho.1 (flush_few h2) (h4.flush h2.can) ho.2.1 hL
    exact ⟨S', rfl, k1, k2, k3⟩
  put w B S u v s e x c h hx c0 c1 hl ht := by
    obtain ⟨h1, h2, h3, h4, vr, vw, h5, rfl⟩ := h
    refine (gw_put tup_does h5 h2 rfl h3 h1 hx c0 c1 hl (by omega)).mono ?_
    rintro r w' ⟨rfl, hL⟩
    have ho := OkX.put (u := u) (v := v) h2 hx h3 c hl (by omega)
    obtain ⟨d, rfl⟩ : ∃ d, c = d + 1 := ⟨c - 1, by omega⟩
    obtain ⟨S', k1, k2, k3⟩ := gwx_of h1 ho.1 ho.2.2.2 (h4.put h2 hx h3 d hl (by omega)) ho.2.1 hL
    exact ⟨S', rfl, k1, k2, k3⟩
  zero w B S u v s e x h hx := gw_put_zero w B x
  long w B S u v s e x c h hx hc hl := gw_put_long w B x c hc hl
  join w B S u v s e B' S' s' e' h h' hd hl ht := by
    obtain ⟨h1, h2, h3, h4, vr, vw, h5, rfl⟩ := h
    obtain ⟨k1, k2, k3, k4, vr', vw', k5, rfl⟩ := h'
    refine (gw_join tup_does h5 k5 h2 k2 rfl rfl h1 hd hl (by omega)).mono ?_
    rintro r w' ⟨rfl, hL⟩
    have ho := OkX.join (u := u) (v := v) h2 k2 hl (by omega)
    obtain ⟨S', j1, j2, j3⟩ := gwx_of h1 ho.1 (by rw [ho.2.2.2]; decide) (h4.joinX k4 h2 k2) ho.2.1 hL
    exact ⟨S', rfl, j1, j2, j3⟩
  match_ w B S u v s e B' S' u' v' s' e' h h' hne := by
    obtain ⟨h1, h2, h3, h4, vr, vw, h5, rfl⟩ := h
    obtain ⟨k1, k2, k3, k4, vr', vw', k5, rfl⟩ := h'
    exact gw_join_match h5.c0 h5.c1 k5.c0 k5.c1 hne
  join_nil w B S u v s e h := gw_join_nil w B
  quantile w B S u v s e pa pb h wa wb := by
    obtain ⟨h1, h2, h3, h4, vr, vw, h5, rfl⟩ := h
    refine (gw_quan tup_does h5 h2 rfl h1 wa wb).mono ?_
    rintro r w' ⟨rfl, hL⟩
    have ho := OkX.flush (u := u) (v := v) h2
    have hx : OkX (leftW u v pa pb s) ∧ (leftW u v pa pb s).2.length < 16 ∧ EndG (leftW u v pa pb s) e ∧ totG (leftW u v pa pb s) = totG s := by
      unfold leftW
      split
      · exact ⟨h2, h3, h4, rfl⟩
      · exact ⟨ho.1, flush_few h2, h4.flush h2.can, ho.2.1⟩
    obtain ⟨S', j1, j2, j3⟩ := gwx_of h1 hx.1 hx.2.1 hx.2.2.1 hx.2.2.2 hL
    exact ⟨S', rfl, j1, j2, j3⟩
  ends w B S u v s x y z h := by
    obtain ⟨h1, h2, h3, h4, vr, vw, h5, rfl⟩ := h
    exact gw_ends h5 h2 rfl h4
  row w B S u v s e h := by
    obtain ⟨h1, h2, h3, h4, vr, vw, h5, rfl⟩ := h
    have hle := h2.le
    have htt := h2.tot
    have hsl := h2.sl
    refine (gw_row h5 h2.can (by omega) h2.sp h2.wt (by omega) (by omega)).mono ?_
    rintro r w' ⟨v1, v2, rfl, o1, o2, _, hb⟩
    obtain ⟨A1, c1, rfl, hT⟩ := o1.rows (row_okX h2.can (by omega) h2.sp)
    obtain ⟨A2, c2, rfl, hN⟩ := o2.rows h2.wt
    rw [row_len]
    exact ⟨A1, c1, A2, c2, rfl, hT, hN, hb⟩
  load := gw_load tup_does
  unfit := gw_unfit tup_does
theorem gw_nil : GwNil where
  flush := gw_flush_nil
  ends := gw_ends_nil
  quantile w pa pb _ _ := gw_quan_nil w pa pb
  row w := (gw_row_nil w).mono fun e w' ⟨h, hb⟩ => ⟨none, 0, none, 0, h, hb⟩
  put w x c _ _ := gw_put_nil w x c
  join := gw_join_nil0
  total := gw_total_nil
end Go.Proofs.YtfmlkohijkalbaaGreat

/-
  Rows of pairs in memory, as they are read: what hangs on no type of the program (taken out of PairS).
-/
namespace Go.Proofs.YtfmlkohijkalbaaGreat
set_option linter.unusedVariables false
set_option linter.unusedSimpArgs false
open Go.RowKit

/-- A row of pairs in memory. -/
structure Pairs (w : World) (A : Option Addr) (L : List PairV) : Prop where
  ok : ∀ p, p ∈ L → okP p
  at_ : ∀ (i : Nat) (p : PairV), L[i]? = some p → ∃ b off, A = some ⟨b, off, none⟩ ∧ b < w.heap.size ∧ w.cell? ⟨b, off + i * 2, none⟩ = some (.int .i64 p.1) ∧ w.cell? ⟨b, off + i * 2 + 1, none⟩ = some (.int .u64 p.2)
theorem Pairs.call {w w' : World} {A : Option Addr} {L : List PairV} (h : Pairs w A L) (hb : Below w.heap.size w w') : Pairs w' A L :=
  ⟨h.ok, fun i it hi => by
    obtain ⟨b, off, hA, hlt, c0, c1⟩ := h.at_ i it hi
    exact ⟨b, off, hA, Nat.lt_of_lt_of_le hlt hb.size, cell_later hb c0, cell_later hb c1⟩⟩
theorem Pairs.nil (w : World) : Pairs w none [] := ⟨fun p h => (by cases h), fun i p h => by simp at h⟩
/-- A row's cells. -/
def cellsP (p : PairV) : List Value := [.int .i64 p.1, .int .u64 p.2]
def cellsQ (L : List PairV) : List Value := L.flatMap cellsP
theorem cellsQ_cons (p : PairV) (r : List PairV) : cellsQ (p :: r) = cellsP p ++ cellsQ r := by unfold cellsQ; rw [List.flatMap_cons]
theorem cellsQ_app (a b : List PairV) : cellsQ (a ++ b) = cellsQ a ++ cellsQ b := by unfold cellsQ; rw [List.flatMap_append]
theorem cellsQ_one' (p : PairV) : cellsQ [p] = [.int .i64 p.1, .int .u64 p.2] := by unfold cellsQ cellsP; simp
theorem cellsQ_len (L : List PairV) : (cellsQ L).length = L.length * 2 := by
  induction L with
  | nil => rfl
  | cons p r ih => rw [cellsQ_cons, List.length_append, ih, List.length_cons]; simp [cellsP]; omega
theorem cellsQ_one (L : List PairV) : ∀ u ∈ cellsQ L, u.oneCell' = true := by
  intro u hu
  unfold cellsQ at hu
  obtain ⟨p, _, h⟩ := List.mem_flatMap.1 hu
  simp only [cellsP, List.mem_cons, List.not_mem_nil, or_false] at h
  rcases h with rfl | rfl <;> rfl
theorem cellsQ_at : ∀ (L : List PairV) (i : Nat) (p : PairV), L[i]? = some p → (cellsQ L)[i * 2]? = some (.int .i64 p.1) ∧ (cellsQ L)[i * 2 + 1]? = some (.int .u64 p.2) := by
  intro L
  induction L with
  | nil => intro i p h; simp at h
  | cons q r ih =>
    intro i p h
    rw [cellsQ_cons]
    cases i with
    | zero => simp at h; subst h; simp [cellsP]
    | succ i =>
      have hr := ih i p (by simpa using h)
      have e : ∀ j, (cellsP q ++ cellsQ r)[(i + 1) * 2 + j]? = (cellsQ r)[i * 2 + j]? := by
        intro j
        rw [List.getElem?_append_right (by simp [cellsP]; omega)]
        congr 1
        simp [cellsP]; omega
      exact ⟨(e 0).trans hr.1, (e 1).trans hr.2⟩
theorem add_flat (b off j : Nat) : (⟨b, off, none⟩ : Addr).add j = ⟨b, off + j, none⟩ := by unfold Addr.add; split <;> simp_all
theorem ok_pos {L : List PairV} (h : ∀ p, p ∈ L → okP p) : ∀ p, p ∈ L → 0 ≤ p.2 := fun p hp => (h p hp).2.1
end Go.Proofs.YtfmlkohijkalbaaGreat

/-
  How an argument of the laws is opened, and shut again: a wide number, a fraction, a word.
-/
namespace Go.Proofs.YtfmlkohijkalbaaGreat
set_option linter.unusedVariables false
set_option maxRecDepth 100000
open Go.ChangeShapes Go.WideShapes Go.ChangeAt Go.RowKit Go.Joins

theorem own : ownKnob Tryz.prog.godebug = none := by kernel_rfl
theorem laidOut : laidOutB Tryz.prog = true := by kernel_rfl
theorem word_of_wf {x : Int} (h : (Lit.int .u64 x).wf = true) : Word x := by
  simp [Lit.wf, IntKind.min, IntKind.max, IntKind.signed, IntKind.bits] at h
  exact ⟨by omega, by omega⟩
theorem cellsWide : Tryz.prog.cellsOf 85 = 2 := by kernel_rfl
theorem wide_reads {H : Type} {enc : TypeId × Value → H} {a b : Int} (wa : (Lit.int .u64 a).wf = true) (wb : (Lit.int .u64 b).wf = true) (W' : World) (sp : Nat → Bool) :
    DataW.Trod enc Tryz.prog W' 0 sp true 85 (.agg #[.int .u64 a, .int .u64 b]) (.agg [.lit (.int .u64 a), .lit (.int .u64 b)]) [] :=
  shut_agg2 (y0 := (.lit (.int .u64 a), [])) (y1 := (.lit (.int .u64 b), [])) Tryz.underlying85 (by kernel_rfl) cellsWide ⟨1, by simp [DataW.trod, Tryz.underlying22, wa]⟩ ⟨1, by simp [DataW.trod, Tryz.underlying22, wb]⟩
theorem wide_opens {H : Type} {enc : TypeId × Value → H} {W : World} {r : Reach} {b0 : Nat} {sp : Nat → Bool} {v : Value} {d : DataW H} {p : List MemPlace} (hv : Value.okWide Tryz.prog W r b0 85 v) (h : DataW.Trod enc Tryz.prog W 0 sp true 85 v d p) :
    ∃ a b : Int, v = .agg #[.int .u64 a, .int .u64 b] ∧ d = .agg [.lit (.int .u64 a), .lit (.int .u64 b)] ∧ p = [] ∧ (Lit.int .u64 a).wf = true ∧ (Lit.int .u64 b).wf = true := by
  obtain ⟨c0, c1, y0, y1, m, rfl, rfl, rfl, hy0, hy1⟩ := open_agg2 Tryz.underlying85 (by kernel_rfl) cellsWide hv h
  obtain ⟨a, e0, rfl, wa⟩ := DataW.trod_int Tryz.underlying22 hy0
  obtain ⟨b, e1, rfl, wb⟩ := DataW.trod_int Tryz.underlying22 hy1
  simp at e0 e1
  subst e0 e1
  exact ⟨a, b, rfl, rfl, rfl, wa, wb⟩
theorem cellsRatio : Tryz.prog.cellsOf 24 = 2 := by kernel_rfl
theorem ratio_reads {H : Type} {enc : TypeId × Value → H} {a b : Int} (wa : (Lit.int .u64 a).wf = true) (wb : (Lit.int .u64 b).wf = true) (W' : World) (sp : Nat → Bool) :
    DataW.Trod enc Tryz.prog W' 0 sp true 24 (.agg #[.int .u64 a, .int .u64 b]) (.agg [.lit (.int .u64 a), .lit (.int .u64 b)]) [] :=
  shut_agg2 (y0 := (.lit (.int .u64 a), [])) (y1 := (.lit (.int .u64 b), [])) Tryz.underlying24 (by kernel_rfl) cellsRatio ⟨1, by simp [DataW.trod, Tryz.underlying22, wa]⟩ ⟨1, by simp [DataW.trod, Tryz.underlying22, wb]⟩
theorem ratio_opens {H : Type} {enc : TypeId × Value → H} {W : World} {r : Reach} {b0 : Nat} {sp : Nat → Bool} {v : Value} {d : DataW H} {p : List MemPlace} (hv : Value.okWide Tryz.prog W r b0 24 v) (h : DataW.Trod enc Tryz.prog W 0 sp true 24 v d p) :
    ∃ a b : Int, v = .agg #[.int .u64 a, .int .u64 b] ∧ d = .agg [.lit (.int .u64 a), .lit (.int .u64 b)] ∧ p = [] ∧ (Lit.int .u64 a).wf = true ∧ (Lit.int .u64 b).wf = true := by
  obtain ⟨c0, c1, y0, y1, m, rfl, rfl, rfl, hy0, hy1⟩ := open_agg2 Tryz.underlying24 (by kernel_rfl) cellsRatio hv h
  obtain ⟨a, e0, rfl, wa⟩ := DataW.trod_int Tryz.underlying22 hy0
  obtain ⟨b, e1, rfl, wb⟩ := DataW.trod_int Tryz.underlying22 hy1
  simp at e0 e1
  subst e0 e1
  exact ⟨a, b, rfl, rfl, rfl, wa, wb⟩
end Go.Proofs.YtfmlkohijkalbaaGreat

/-
  Arguments of stage 18 opened: rows of steps, rows of tuples.
-/
namespace Go.Proofs.YtfmlkohijkalbaaGreat
set_option linter.unusedVariables false
set_option linter.unusedSimpArgs false
set_option maxRecDepth 100000
open Go.ChangeShapes Go.WideShapes Go.ChangeAt Go.RowKit Go.Joins

theorem deep18 (a : Addr) (i j : Nat) : (a.add i).add j = a.add (i + j) := Go.Deep.add_add a i j
def okSt (x : StepV) : Prop := I64 x.x ∧ Word x.lim
/-- A row of steps in memory. -/
structure Stps (w : World) (A : Option Addr) (L : List StepV) : Prop where
  ok : ∀ x, x ∈ L → okSt x
  at_ : ∀ (i : Nat) (x : StepV), L[i]? = some x → ∃ b off, A = some ⟨b, off, none⟩ ∧ b < w.heap.size ∧ w.cell? ⟨b, off + i * 3, none⟩ = some (.int .i64 x.x) ∧ w.cell? ⟨b, off + i * 3 + 1, none⟩ = some (.int .u64 x.lim) ∧ w.cell? ⟨b, off + i * 3 + 2, none⟩ = some (.bool x.sq)
theorem Stps.call {w w' : World} {A : Option Addr} {L : List StepV} (h : Stps w A L) (hb : Below w.heap.size w w') : Stps w' A L :=
  ⟨h.ok, fun i it hi => by
    obtain ⟨b, off, hA, hlt, c0, c1, c2⟩ := h.at_ i it hi
    exact ⟨b, off, hA, Nat.lt_of_lt_of_le hlt hb.size, cell_later hb c0, cell_later hb c1, cell_later hb c2⟩⟩
theorem Stps.grown {w w' : World} {A : Option Addr} {L : List StepV} (h : Stps w A L) {base : Nat} {r : Option Nat} (hb : ∀ b off s, A = some ⟨b, off, s⟩ → b < base) (hr : ∀ g, r = some g → base ≤ g) (hg : w.grownBy w' r) : Stps w' A L :=
  ⟨h.ok, fun i it hi => by
    obtain ⟨b, off, hA, hlt, c0, c1, c2⟩ := h.at_ i it hi
    have e := hg.block b hlt (fun e => by have h1 := hb b off none hA; have h2 := hr b e.symm; omega)
    exact ⟨b, off, hA, Nat.lt_of_lt_of_le hlt hg.size, (World.cell?_of_block (a := ⟨b, off + i * 3, none⟩) e).trans c0, (World.cell?_of_block (a := ⟨b, off + i * 3 + 1, none⟩) e).trans c1, (World.cell?_of_block (a := ⟨b, off + i * 3 + 2, none⟩) e).trans c2⟩⟩
theorem Stps.nil (w : World) : Stps w none [] := ⟨fun p h => (by cases h), fun i p h => by simp at h⟩

theorem cellsTup18 : Tryz.prog.cellsOf 75 = 3 := by kernel_rfl
theorem bytesTup18 : Tryz.prog.bytesOf 75 = 24 := by kernel_rfl
/-- Three cells that read as a call. -/
theorem open_tup18 {H : Type} {enc : TypeId × Value → H} {W : World} {base n : Nat} {spare : Nat → Bool} {held : Bool} {ad : Addr} {cs : List Value} {d : DataW H} {pl : List MemPlace}
    (hc : W.cells? base ad 3 = some cs) (h : DataW.trod enc Tryz.prog W base spare held n 75 cs = some (d, pl)) :
    ∃ x : TupV, okTu x ∧ W.cell? (ad.add 0) = some (.int .i64 x.x) ∧ W.cell? (ad.add 1) = some (.int .u64 x.st) ∧ W.cell? (ad.add 2) = some (.int .u64 x.sl) := by
  obtain ⟨_, hl, hat⟩ := World.cells?_some hc
  obtain ⟨ys, m, _, hx, _, hyl, hf⟩ := DataW.trod_struct Tryz.underlying75 h
  match cs, hl with
  | [x0, x1, x2], _ =>
    have h0 := hf 0 _ rfl
    have h1 := hf 1 _ rfl
    have h2 := hf 2 _ rfl
    match ys, hyl with
    | [y0, y1, y2], _ =>
      obtain ⟨k, e0, r0, w0⟩ := DataW.trod_int Tryz.underlying2 h0
      obtain ⟨i, e1, r1, w1⟩ := DataW.trod_int Tryz.underlying22 h1
      obtain ⟨c, e2, r2, w2⟩ := DataW.trod_int Tryz.underlying22 h2
      have g0 : [x0] = [.int .i64 k] := e0
      have g1 : [x1] = [.int .u64 i] := e1
      have g2 : [x2] = [.int .u64 c] := e2
      simp only [List.cons.injEq, and_true] at g0 g1 g2
      subst g0 g1 g2
      exact ⟨⟨k, i, c⟩, ⟨i64_of_wf w0, word_of_wf w1, word_of_wf w2⟩, hat 0 (by omega), hat 1 (by omega), hat 2 (by omega)⟩

theorem open_tups18 {H : Type} {enc : TypeId × Value → H} {W : World} {base : Nat} {v : Value} {d : DataW H} {p : List MemPlace}
    (hv : Value.okWide Tryz.prog W .any base 56 v) (h : DataW.Trod enc Tryz.prog W 0 (fun _ => true) true 56 v d p)
    (hz : ∀ n ∈ DataW.weights Tryz.prog 56 d, n ≤ reachBytes) :
    ∃ A cap L, v = .slice A (List.length L) cap ∧ Tups W A L ∧ L.length ≤ 140737488351232 ∧ L.length ≤ cap := by
  obtain ⟨a0, len, cap, rfl⟩ := okWide_slice Tryz.underlying56 hv
  obtain ⟨fuel, hf⟩ := h
  rcases Go.Deep.open_slice Tryz.underlying56 hf with ⟨hcs, hx⟩ | ⟨a, len', cap', m, n, D, Pl, hcs, _, hl, hm, hmm, hx, hi⟩
  · simp [Value.cells] at hcs
    obtain ⟨rfl, rfl, rfl⟩ := hcs
    exact ⟨none, 0, [], rfl, Tups.nil W none, Nat.zero_le _, Nat.le_refl _⟩
  · simp [Value.cells] at hcs
    obtain ⟨rfl, rfl, rfl⟩ := hcs
    simp only [if_true] at hmm
    obtain rfl : cap = m := hmm.symm
    simp only [Prod.mk.injEq] at hx
    obtain ⟨rfl, rfl⟩ := hx
    have hw : DataW.weights Tryz.prog 56 (.slice ((List.range len).map D) ((List.range (cap - len)).map fun j => D (len + j))) =
        (((List.range len).map D).length + ((List.range (cap - len)).map fun j => D (len + j)).length) * Tryz.prog.bytesOf 75 ::
        (DataW.weightsAll Tryz.prog 75 ((List.range len).map D) ++ DataW.weightsAll Tryz.prog 75 ((List.range (cap - len)).map fun j => D (len + j))) := by
      conv => lhs; unfold DataW.weights
      rw [Tryz.underlying56]
    have hlen : len ≤ 140737488351232 := by
      have := hz _ (by rw [hw]; exact List.mem_cons_self)
      rw [bytesTup18] at this
      simp only [List.length_map, List.length_range, reachBytes] at this
      omega
    have hall : ∀ i, i < len → ∃ x : TupV, okTu x ∧ W.cell? (a.add (i * 3)) = some (.int .i64 x.x) ∧ W.cell? (a.add (i * 3 + 1)) = some (.int .u64 x.st) ∧ W.cell? (a.add (i * 3 + 2)) = some (.int .u64 x.sl) := by
      intro i hi'
      obtain ⟨cs', hc, ht⟩ := hi i (by omega)
      rw [cellsTup18] at hc
      obtain ⟨x, i1, c0, c1, c2⟩ := open_tup18 hc ht
      rw [deep18] at c0 c1 c2
      exact ⟨x, i1, c0, c1, c2⟩
    obtain ⟨f, hf'⟩ := Go.Deep.choose_lt hall
    refine ⟨some a, cap, (List.range len).map f, by simp, ⟨?_, ?_⟩, by simpa using hlen, by simpa using hl⟩
    · intro x hx
      obtain ⟨i, hi1, rfl⟩ := List.mem_map.1 hx
      exact (hf' i (List.mem_range.1 hi1)).1
    · intro i x hx
      have hil : i < len := by
        rcases Nat.lt_or_ge i len with h | h
        · exact h
        · rw [List.getElem?_eq_none (by simpa using h)] at hx; cases hx
      simp only [List.getElem?_map, List.getElem?_range hil, Option.map_some, Option.some.injEq] at hx
      subst hx
      obtain ⟨_, c0, c1, c2⟩ := hf' i hil
      obtain ⟨b, off, spot⟩ := a
      have hspot : spot = none := by
        have z0 := (hf' 0 (by omega)).2.1
        simpa [Addr.add] using World.cell?_spot z0
      subst hspot
      have hb : b < W.heap.size := by
        have := World.block_lt_of_cell? W _ c0
        revert this; unfold Addr.add; split <;> simp
      refine ⟨b, off, rfl, hb, ?_, ?_, ?_⟩
      · rw [← flat3]; exact c0
      · rw [Nat.add_assoc, ← flat3]; exact c1
      · rw [Nat.add_assoc, ← flat3]; exact c2
end Go.Proofs.YtfmlkohijkalbaaGreat

/-
  Arguments of stage 19 opened: rows of values, rows of whole numbers. (tools/gen_gw_o.py, out of ValO)
-/
namespace Go.Proofs.YtfmlkohijkalbaaGreat
set_option linter.unusedVariables false
set_option linter.unusedSimpArgs false
set_option maxRecDepth 100000
open Go.ChangeShapes Go.WideShapes Go.ChangeAt Go.RowKit Go.Joins

theorem cellsVal19 : Tryz.prog.cellsOf 50 = 2 := by kernel_rfl
theorem bytesVal19 : Tryz.prog.bytesOf 50 = 16 := by kernel_rfl
/-- Two cells that read as a pair. -/
theorem open_val19 {H : Type} {enc : TypeId × Value → H} {W : World} {base n : Nat} {spare : Nat → Bool} {held : Bool} {ad : Addr} {cs : List Value} {d : DataW H} {pl : List MemPlace}
    (hc : W.cells? base ad 2 = some cs) (h : DataW.trod enc Tryz.prog W base spare held n 50 cs = some (d, pl)) :
    ∃ p : PairV, okP p ∧ W.cell? (ad.add 0) = some (.int .i64 p.1) ∧ W.cell? (ad.add 1) = some (.int .u64 p.2) := by
  obtain ⟨_, hl, hat⟩ := World.cells?_some hc
  obtain ⟨ys, m, _, hx, _, hyl, hf⟩ := DataW.trod_struct Tryz.underlying50 h
  match cs, hl with
  | [x0, x1], _ =>
    have h0 := hf 0 _ rfl
    have h1 := hf 1 _ rfl
    match ys, hyl with
    | [y0, y1], _ =>
      obtain ⟨i, e0, r0, w0⟩ := DataW.trod_int Tryz.underlying2 h0
      obtain ⟨c, e1, r1, w1⟩ := DataW.trod_int Tryz.underlying22 h1
      have g0 : [x0] = [.int .i64 i] := e0
      have g1 : [x1] = [.int .u64 c] := e1
      simp only [List.cons.injEq, and_true] at g0 g1
      subst g0 g1
      exact ⟨(i, c), ⟨i64_of_wf w0, word_of_wf w1⟩, hat 0 (by omega), hat 1 (by omega)⟩
/-- Cells that read as a row of pairs. -/
theorem open_vrow19 {H : Type} {enc : TypeId × Value → H} {W : World} {n : Nat} {cs : List Value} {d : DataW H} {pl : List MemPlace}
    (hf : DataW.trod enc Tryz.prog W 0 (fun _ => true) true n 25 cs = some (d, pl)) (hz : ∀ n ∈ DataW.weights Tryz.prog 25 d, n ≤ reachBytes) :
    ∃ A cap L, cs = [.slice A (List.length L) cap] ∧ Pairs W A L ∧ L.length ≤ 140737488351232 := by
  rcases Go.Deep.open_slice Tryz.underlying25 hf with ⟨hcs, hx⟩ | ⟨a, len, cap, m, n, D, Pl, hcs, _, hl, hm, hmm, hx, hi⟩
  · exact ⟨none, 0, [], hcs, Pairs.nil W, Nat.zero_le _⟩
  · simp only [if_true] at hmm
    obtain rfl : cap = m := hmm.symm
    simp only [Prod.mk.injEq] at hx
    obtain ⟨rfl, rfl⟩ := hx
    have hw : DataW.weights Tryz.prog 25 (.slice ((List.range len).map D) ((List.range (cap - len)).map fun j => D (len + j))) =
        (((List.range len).map D).length + ((List.range (cap - len)).map fun j => D (len + j)).length) * Tryz.prog.bytesOf 50 ::
        (DataW.weightsAll Tryz.prog 50 ((List.range len).map D) ++ DataW.weightsAll Tryz.prog 50 ((List.range (cap - len)).map fun j => D (len + j))) := by
      conv => lhs; unfold DataW.weights
      rw [Tryz.underlying25]
    have hlen : len ≤ 140737488351232 := by
      have := hz _ (by rw [hw]; exact List.mem_cons_self)
      rw [bytesVal19] at this
      simp only [List.length_map, List.length_range, reachBytes] at this
      omega
    have hall : ∀ i, i < len → ∃ p : PairV, okP p ∧ W.cell? (a.add (i * 2)) = some (.int .i64 p.1) ∧ W.cell? (a.add (i * 2 + 1)) = some (.int .u64 p.2) := by
      intro i hi'
      obtain ⟨cs', hc, ht⟩ := hi i (by omega)
      rw [cellsVal19] at hc
      obtain ⟨p, i1, c0, c1⟩ := open_val19 hc ht
      rw [deep18] at c0 c1
      exact ⟨p, i1, c0, c1⟩
    obtain ⟨f, hf'⟩ := Go.Deep.choose_lt hall
    refine ⟨some a, cap, (List.range len).map f, by rw [hcs]; simp, ⟨?_, ?_⟩, by simpa using hlen⟩
    · intro p hp
      obtain ⟨i, hi1, rfl⟩ := List.mem_map.1 hp
      exact (hf' i (List.mem_range.1 hi1)).1
    · intro i p hp
      have hil : i < len := by
        rcases Nat.lt_or_ge i len with h | h
        · exact h
        · rw [List.getElem?_eq_none (by simpa using h)] at hp; cases hp
      simp only [List.getElem?_map, List.getElem?_range hil, Option.map_some, Option.some.injEq] at hp
      subst hp
      obtain ⟨_, c0, c1⟩ := hf' i hil
      obtain ⟨b, off, spot⟩ := a
      have hspot : spot = none := by
        have z0 := (hf' 0 (by omega)).2.1
        simpa [Addr.add] using World.cell?_spot z0
      subst hspot
      have hb : b < W.heap.size := by
        have := World.block_lt_of_cell? W _ c0
        revert this; unfold Addr.add; split <;> simp
      refine ⟨b, off, rfl, hb, ?_, ?_⟩
      · rw [← add_flat]; exact c0
      · rw [Nat.add_assoc, ← add_flat]; exact c1

theorem open_vals19 {H : Type} {enc : TypeId × Value → H} {W : World} {base : Nat} {v : Value} {d : DataW H} {p : List MemPlace}
    (hv : Value.okWide Tryz.prog W .any base 25 v) (h : DataW.Trod enc Tryz.prog W 0 (fun _ => true) true 25 v d p)
    (hz : ∀ n ∈ DataW.weights Tryz.prog 25 d, n ≤ reachBytes) :
    ∃ A cap L, v = .slice A (List.length L) cap ∧ Pairs W A L ∧ L.length ≤ 140737488351232 := by
  obtain ⟨a0, len, cap, rfl⟩ := okWide_slice Tryz.underlying25 hv
  obtain ⟨fuel, hf⟩ := h
  obtain ⟨A, cap', L, hcs, hP, hl⟩ := open_vrow19 hf hz
  simp [Value.cells] at hcs
  obtain ⟨rfl, rfl, rfl⟩ := hcs
  exact ⟨_, _, L, rfl, hP, hl⟩

theorem cellsInt19 : Tryz.prog.cellsOf 2 = 1 := by kernel_rfl
theorem bytesInt19 : Tryz.prog.bytesOf 2 = 8 := by kernel_rfl
/-- A cell that reads as a whole number. -/
theorem open_num19 {H : Type} {enc : TypeId × Value → H} {W : World} {base n : Nat} {spare : Nat → Bool} {held : Bool} {ad : Addr} {cs : List Value} {d : DataW H} {pl : List MemPlace}
    (hc : W.cells? base ad 1 = some cs) (h : DataW.trod enc Tryz.prog W base spare held n 2 cs = some (d, pl)) :
    ∃ x : Int, I64 x ∧ W.cell? (ad.add 0) = some (.int .i64 x) := by
  obtain ⟨_, hl, hat⟩ := World.cells?_some hc
  obtain ⟨x, e0, r0, w0⟩ := DataW.trod_int Tryz.underlying2 h
  subst e0
  exact ⟨x, i64_of_wf w0, hat 0 (by omega)⟩
/-- Cells that read as a row of whole numbers. -/
theorem open_nrow19 {H : Type} {enc : TypeId × Value → H} {W : World} {n : Nat} {cs : List Value} {d : DataW H} {pl : List MemPlace}
    (hf : DataW.trod enc Tryz.prog W 0 (fun _ => true) true n 52 cs = some (d, pl)) (hz : ∀ n ∈ DataW.weights Tryz.prog 52 d, n ≤ reachBytes) :
    ∃ A cap L, cs = [.slice A (List.length L) cap] ∧ Nums W A L ∧ L.length ≤ 140737488351232 := by
  rcases Go.Deep.open_slice Tryz.underlying52 hf with ⟨hcs, hx⟩ | ⟨a, len, cap, m, n, D, Pl, hcs, _, hl, hm, hmm, hx, hi⟩
  · exact ⟨none, 0, [], hcs, Nums.nil W none, Nat.zero_le _⟩
  · simp only [if_true] at hmm
    obtain rfl : cap = m := hmm.symm
    simp only [Prod.mk.injEq] at hx
    obtain ⟨rfl, rfl⟩ := hx
    have hw : DataW.weights Tryz.prog 52 (.slice ((List.range len).map D) ((List.range (cap - len)).map fun j => D (len + j))) =
        (((List.range len).map D).length + ((List.range (cap - len)).map fun j => D (len + j)).length) * Tryz.prog.bytesOf 2 ::
        (DataW.weightsAll Tryz.prog 2 ((List.range len).map D) ++ DataW.weightsAll Tryz.prog 2 ((List.range (cap - len)).map fun j => D (len + j))) := by
      conv => lhs; unfold DataW.weights
      rw [Tryz.underlying52]
    have hlen : len ≤ 140737488351232 := by
      have := hz _ (by rw [hw]; exact List.mem_cons_self)
      rw [bytesInt19] at this
      simp only [List.length_map, List.length_range, reachBytes] at this
      omega
    have hall : ∀ i, i < len → ∃ x : Int, I64 x ∧ W.cell? (a.add i) = some (.int .i64 x) := by
      intro i hi'
      obtain ⟨cs', hc, ht⟩ := hi i (by omega)
      rw [cellsInt19] at hc
      obtain ⟨x, i1, c0⟩ := open_num19 hc ht
      rw [deep18, Nat.mul_one] at c0
      exact ⟨x, i1, c0⟩
    obtain ⟨f, hf'⟩ := Go.Deep.choose_lt hall
    refine ⟨some a, cap, (List.range len).map f, by rw [hcs]; simp, ⟨?_, ?_⟩, by simpa using hlen⟩
    · intro p hp
      obtain ⟨i, hi1, rfl⟩ := List.mem_map.1 hp
      exact (hf' i (List.mem_range.1 hi1)).1
    · intro i p hp
      have hil : i < len := by
        rcases Nat.lt_or_ge i len with h | h
        · exact h
        · rw [List.getElem?_eq_none (by simpa using h)] at hp; cases hp
      simp only [List.getElem?_map, List.getElem?_range hil, Option.map_some, Option.some.injEq] at hp
      subst hp
      obtain ⟨_, c0⟩ := hf' i hil
      obtain ⟨b, off, spot⟩ := a
      have hspot : spot = none := by
        have z0 := (hf' 0 (by omega)).2
        simpa [Addr.add] using World.cell?_spot z0
      subst hspot
      have hb : b < W.heap.size := by
        have := World.block_lt_of_cell? W _ c0
        revert this; unfold Addr.add; split <;> simp
      refine ⟨b, off, rfl, hb, ?_⟩
      rw [← flat3]; exact c0

theorem open_nums19 {H : Type} {enc : TypeId × Value → H} {W : World} {base : Nat} {v : Value} {d : DataW H} {p : List MemPlace}
    (hv : Value.okWide Tryz.prog W .any base 52 v) (h : DataW.Trod enc Tryz.prog W 0 (fun _ => true) true 52 v d p)
    (hz : ∀ n ∈ DataW.weights Tryz.prog 52 d, n ≤ reachBytes) :
    ∃ A cap L, v = .slice A (List.length L) cap ∧ Nums W A L ∧ L.length ≤ 140737488351232 := by
  obtain ⟨a0, len, cap, rfl⟩ := okWide_slice Tryz.underlying52 hv
  obtain ⟨fuel, hf⟩ := h
  obtain ⟨A, cap', L, hcs, hP, hl⟩ := open_nrow19 hf hz
  simp [Value.cells] at hcs
  obtain ⟨rfl, rfl, rfl⟩ := hcs
  exact ⟨_, _, L, rfl, hP, hl⟩
end Go.Proofs.YtfmlkohijkalbaaGreat

/-
  The laws of layer 19: alive, plain, good.
-/
namespace Go.Proofs.YtfmlkohijkalbaaGreat
set_option linter.unusedVariables false
set_option linter.unusedSimpArgs false
open Go.RowKit

theorem al19_quan : quanW 1 10 1 2 (putG 1 10 ([], []) 5 2) = (5, 0) := by decide +kernel
theorem al19_tot : totG (leftW 1 10 1 2 (putG 1 10 ([], []) 5 2)) = 2 := by decide +kernel
theorem al19_one : GoodA 1 10 := ⟨by decide, by decide, by decide⟩

set_option maxRecDepth 100000 in
set_option maxHeartbeats 1000000 in
theorem alive19_any {Gw : GwT} (D : GwDoes Gw) (w : World) : Calls Tryz.prog 4 #[] w fun e w' => e = .returned (.bool true) ∧ Below w.heap.size w w' := by
  have HD := Lib.hid D
  have HN := Lib.hid (D.new w 1 10 al19_one)
  have C2 := Lib.hid al19_tot
  have C3 := Lib.hid al19_quan
  clear D
  go_enter Tryz.func4, Tryz.ntmps4
  go_wp2_with fail
  refine HN.out.mono ?_
  rintro e w1 ⟨B, S, rfl, h1, hs1, b1⟩
  have z1 := b1.size
  have HP := Lib.hid (HD.out.put w1 B S 1 10 ([], []) (0, 0, false) 5 2 h1 ⟨by decide, by decide⟩ (by decide) (by decide) (by decide) (by decide))
  clear HN
  go_wp2_with fail
  refine HP.out.mono ?_
  rintro e w2 ⟨S2, rfl, h2, k2, hs2⟩
  have b2 := k2.below b1 z1 hs1
  have z2 := b2.size
  have HS2 : Hid (∀ i, S2 i → w.heap.size ≤ i) := Lib.hid fun i hi => by
    rcases hs2 i hi with h | h
    · exact hs1 i h
    · omega
  have HQ := Lib.hid (HD.out.quantile w2 B S2 1 10 _ _ 1 2 h2 ⟨by decide, by decide⟩ ⟨by decide, by decide⟩)
  rw [C3.out] at HQ
  clear h1 hs1 b1 k2 hs2 h2 HP
  go_wp2_with fail
  refine HQ.out.mono ?_
  rintro e w3 ⟨S3, rfl, h3, k3, hs3⟩
  have b3 := k3.below b2 z2 HS2.out
  have z3 := b3.size
  have HT := Lib.hid (HD.out.total w3 B S3 1 10 _ _ h3)
  rw [C2.out] at HT
  clear k3 hs3 h3 HQ
  go_wp2_with fail
  refine HT.out.mono ?_
  rintro e w4 ⟨rfl, b4'⟩
  have b4 := b3.trans (b4'.mono b3.size)
  go_wp2_with fail
  go_ret
  exact ⟨rfl, b4⟩

set_option maxRecDepth 100000 in
set_option maxHeartbeats 1000000 in
theorem good19_any (w : World) (a b : Int) (ha : Word a) (hb : Word b) : Calls Tryz.prog 18 #[.agg #[.int .u64 a, .int .u64 b]] w fun e w' => e = .returned (.bool (goodG a b)) ∧ Below w.heap.size w w' := by
  obtain ⟨a0, a1⟩ := ha
  obtain ⟨b0, b1⟩ := hb
  have h2 : b / 2 ≤ b ∧ 0 ≤ b / 2 := by omega
  obtain ⟨q, hq⟩ : ∃ q, b / 2 = q := ⟨_, rfl⟩
  have HG : Hid (goodG a b = (decide (0 < a) && decide (b ≤ 2147483648) && decide (a ≤ q))) := Lib.hid (by unfold goodG; rw [hq])
  by_cases c1 : 0 < a
  · by_cases c2 : b ≤ 2147483648
    · have HB : Hid (goodG a b = decide (a ≤ q)) := Lib.hid (by rw [HG.out, decide_eq_true c1, decide_eq_true c2]; rfl)
      go_enter Tryz.func18, Tryz.ntmps18
      go_wp2_with fail
      go_ret
      refine ⟨?_, (Below.refl _ _).alloc (Nat.le_refl _) _⟩
      rw [HB.out]; rfl
    · have HB : Hid (goodG a b = false) := Lib.hid (by rw [HG.out, decide_eq_true c1, decide_eq_false c2]; rfl)
      go_enter Tryz.func18, Tryz.ntmps18
      go_wp2_with fail
      go_ret
      exact ⟨by rw [HB.out]; rfl, (Below.refl _ _).alloc (Nat.le_refl _) _⟩
  · have HB : Hid (goodG a b = false) := Lib.hid (by rw [HG.out, decide_eq_false c1]; rfl)
    go_enter Tryz.func18, Tryz.ntmps18
    go_wp2_with fail
    go_ret
    exact ⟨by rw [HB.out]; rfl, (Below.refl _ _).alloc (Nat.le_refl _) _⟩

set_option maxRecDepth 100000 in
set_option maxHeartbeats 2000000 in
theorem plain19_any (w : World) (A : Option Addr) (cap : Nat) (L : List TupV) (h : Tups w A L) (hl : L.length ≤ 20000) :
    Calls Tryz.prog 32 #[.slice A L.length cap] w fun e w' => ∃ v, e = .returned v ∧ OwnTr w' w.heap.size v L ∧ Below w.heap.size w w' := by
  have HI := Lib.hid h
  have HL := Lib.hid hl
  clear h
  go_enter Tryz.func32, Tryz.ntmps32
  go_wp2_with fail
  go_loopw [3, 8] (fun s j wr => ∃ (k : Nat), k ≤ L.length ∧ j = .int .i64 k ∧ OwnTr wr w.heap.size s (L.take k) ∧ Below w.heap.size w wr) (fun _ j _ => L.length - (intOf j).toNat)
  case atStart => exact ⟨0, Nat.zero_le _, rfl, OwnTr.nil _ _, Below.refl _ _⟩
  case round =>
    obtain ⟨k, hk, rfl, hown, hb2⟩ := hrel
    have hbs := hb2.size
    by_cases hlt : k < L.length
    · have kk : (k : Int) < L.length := by omega
      have hxk : L[k]? = some L[k] := List.getElem?_eq_getElem hlt
      generalize hit : L[k] = p at *
      obtain ⟨px, ps, pl⟩ := p
      obtain ⟨b0, off, rfl, hbl, c0, c1, c2⟩ := (HI.out.call hb2).at_ k _ hxk
      have HS := Lib.hid (snocS hxk)
      simp only at c0 c1 c2 HS
      obtain ⟨vA, vk, hv⟩ := hown.form
      rw [show (L.take k).length = k by rw [List.length_take]; omega] at hv
      subst hv
      have HO := Lib.hid hown
      have HB := Lib.hid hb2
      clear hxk hit hown
      go_wp2_with (at_builtin; refine wpList_append_tr rfl _ _ rfl w.heap.size _ _ _ rfl (wr.heap.size + 1) ⟨px, ps, pl⟩ rfl ((HO.out.alloc _).alloc _) rfl ?c1 ?c2 ?c3 ?c4 ?c5 ?_)
      case c4 => have := HL.out; rw [List.length_take]; omega
      case c5 => have := HB.out.size; simp; omega
      intro g' cp w1 hown' hgrow _
      have hb4 := OwnTr.below ((HO.out.alloc _).alloc _) ((HB.out.alloc HB.out.size _).alloc (by have := HB.out.size; simp; omega) _) hgrow (by have := HB.out.size; simp; omega)
      rw [← HS.out] at hown'
      clear hgrow
      go_wp2_with fail
      go_roundw
      case rel => exact ⟨k + 1, by omega, by go_num, hown', hb4⟩
      case measure => simp [intOf]; omega
    · obtain rfl : k = L.length := by omega
      rw [List.take_length] at hown
      have kk : ¬ (L.length : Int) < L.length := by omega
      obtain ⟨vA, vk, rfl⟩ := hown.form
      have HO := Lib.hid hown
      clear hown
      go_wp2_with fail
      go_ret
      exact ⟨_, rfl, HO.out, hb2⟩
end Go.Proofs.YtfmlkohijkalbaaGreat

/-
  Plain mathematics of a tree over values, by numbers: no program in sight.
-/
namespace Go.Proofs.YtfmlkohijkalbaaGreat
set_option linter.unusedVariables false
set_option linter.unusedSimpArgs false

/-- How many nodes lie above one: v's level; 2 ^ level ≤ v < 2 ^ (level + 1). -/
def lvlT (v : Nat) : Nat := Nat.log2 v
theorem lvl_bd {v : Nat} (h : 1 ≤ v) : 2 ^ lvlT v ≤ v ∧ v < 2 ^ (lvlT v + 1) := ⟨Nat.log2_self_le (by omega), Nat.lt_log2_self⟩
theorem lvl_is {v l : Nat} (h1 : 2 ^ l ≤ v) (h2 : v < 2 ^ (l + 1)) : lvlT v = l := by
  have hv : 1 ≤ v := Nat.le_trans (Nat.pos_of_ne_zero (by have := Nat.pow_pos (n := l) (show 0 < 2 by omega); omega)) h1
  obtain ⟨a, b⟩ := lvl_bd hv
  have c1 : ¬ l < lvlT v := fun h => by
    have := Nat.pow_le_pow_right (show 0 < 2 by omega) (show l + 1 ≤ lvlT v by omega); omega
  have c2 : ¬ lvlT v < l := fun h => by
    have := Nat.pow_le_pow_right (show 0 < 2 by omega) (show lvlT v + 1 ≤ l by omega); omega
  omega
theorem lvl_le {v b : Nat} (h : 1 ≤ v) (h2 : v < 2 ^ (b + 1)) : lvlT v ≤ b := by
  obtain ⟨a, _⟩ := lvl_bd h
  by_cases c : lvlT v ≤ b
  · exact c
  · have := Nat.pow_le_pow_right (show 0 < 2 by omega) (show b + 1 ≤ lvlT v by omega); omega
theorem lvl_one : lvlT 1 = 0 := lvl_is (by decide) (by decide)
theorem lvl_up {v : Nat} (h : 2 ≤ v) : lvlT v = lvlT (v / 2) + 1 := by
  obtain ⟨a, b⟩ := lvl_bd (show 1 ≤ v / 2 by omega)
  refine lvl_is ?_ ?_
  · rw [Nat.pow_succ]; omega
  · rw [Nat.pow_succ]; omega
theorem lvl_down {v : Nat} (h : 1 ≤ v) : lvlT (2 * v) = lvlT v + 1 ∧ lvlT (2 * v + 1) = lvlT v + 1 := by
  have a := lvl_up (v := 2 * v) (by omega)
  have b := lvl_up (v := 2 * v + 1) (by omega)
  rw [show 2 * v / 2 = v by omega] at a
  rw [show (2 * v + 1) / 2 = v by omega] at b
  exact ⟨a, b⟩
theorem lvl_div {v : Nat} (k : Nat) (h : 1 ≤ v) (hk : k ≤ lvlT v) : 1 ≤ v / 2 ^ k ∧ lvlT (v / 2 ^ k) = lvlT v - k := by
  obtain ⟨a, b⟩ := lvl_bd h
  have hp := Nat.pow_pos (n := k) (show 0 < 2 by omega)
  have e1 : 2 ^ (lvlT v - k) * 2 ^ k = 2 ^ lvlT v := by rw [← Nat.pow_add]; congr 1; omega
  have e2 : 2 ^ (lvlT v - k + 1) * 2 ^ k = 2 ^ (lvlT v + 1) := by rw [← Nat.pow_add]; congr 1; omega
  have l1 : 2 ^ (lvlT v - k) ≤ v / 2 ^ k := (Nat.le_div_iff_mul_le hp).2 (by rw [e1]; exact a)
  have l2 : v / 2 ^ k < 2 ^ (lvlT v - k + 1) := (Nat.div_lt_iff_lt_mul hp).2 (by rw [e2]; exact b)
  have p1 := Nat.pow_pos (n := lvlT v - k) (show 0 < 2 by omega)
  exact ⟨by omega, lvl_is l1 l2⟩

/-- The least and the greatest of the values below a node, counted on from 2 ^ b (the values' own nodes). -/
def loT (b v : Nat) : Nat := v * 2 ^ (b - lvlT v)
def upT (b v : Nat) : Nat := (v + 1) * 2 ^ (b - lvlT v)
theorem range_in {b v : Nat} (h : 1 ≤ v) (h2 : v < 2 ^ (b + 1)) : 2 ^ b ≤ loT b v ∧ loT b v < upT b v ∧ upT b v ≤ 2 ^ (b + 1) := by
  have hl := lvl_le h h2
  obtain ⟨a, c⟩ := lvl_bd h
  have hp := Nat.pow_pos (n := b - lvlT v) (show 0 < 2 by omega)
  have e1 : 2 ^ lvlT v * 2 ^ (b - lvlT v) = 2 ^ b := by rw [← Nat.pow_add]; congr 1; omega
  have e2 : 2 ^ (lvlT v + 1) * 2 ^ (b - lvlT v) = 2 ^ (b + 1) := by rw [← Nat.pow_add]; congr 1; omega
  unfold loT upT
  refine ⟨by rw [← e1]; exact Nat.mul_le_mul_right _ a, by rw [Nat.add_mul]; omega, by rw [← e2]; exact Nat.mul_le_mul_right _ (by omega)⟩
/-- A node that lies above another one, or is it. -/
def aboveT (v w : Nat) : Prop := lvlT v ≤ lvlT w ∧ w / 2 ^ (lvlT w - lvlT v) = v
instance (v w : Nat) : Decidable (aboveT v w) := by unfold aboveT; infer_instance
theorem above_self (v : Nat) : aboveT v v := ⟨Nat.le_refl _, by simp⟩
/-- What lies at a level: below it the same values. -/
theorem range_div {b w k : Nat} (h : 1 ≤ w) (h2 : w < 2 ^ (b + 1)) (hk : k ≤ lvlT w) : loT b (w / 2 ^ k) ≤ loT b w ∧ upT b w ≤ upT b (w / 2 ^ k) := by
  obtain ⟨u1, u2⟩ := lvl_div k h hk
  have hl := lvl_le h h2
  have hp := Nat.pow_pos (n := k) (show 0 < 2 by omega)
  have e : 2 ^ (b - lvlT (w / 2 ^ k)) = 2 ^ k * 2 ^ (b - lvlT w) := by rw [u2, ← Nat.pow_add]; congr 1; omega
  have d1 := Nat.div_mul_le_self w (2 ^ k)
  have d2 : w < (w / 2 ^ k + 1) * 2 ^ k := by
    have := Nat.lt_div_mul_add (a := w) hp
    rw [Nat.add_mul]; omega
  unfold loT upT
  rw [e]
  constructor
  · rw [← Nat.mul_assoc]; exact Nat.mul_le_mul_right _ d1
  · rw [← Nat.mul_assoc]; exact Nat.mul_le_mul_right _ d2
theorem above_range {b v w : Nat} (hw : 1 ≤ w) (hw2 : w < 2 ^ (b + 1)) (h : aboveT v w) : loT b v ≤ loT b w ∧ upT b w ≤ upT b v := by
  have := range_div (k := lvlT w - lvlT v) hw hw2 (by omega)
  rwa [h.2] at this
/-- Of one level: apart, or the same. -/
theorem same_level {b v w : Nat} (he : lvlT v = lvlT w) (h : v < w) : upT b v ≤ loT b w := by
  unfold upT loT; rw [he]; exact Nat.mul_le_mul_right _ h
/-- Of two nodes one lies above the other one, or no value lies below both. -/
theorem above_or {b v w : Nat} (hv : 1 ≤ v) (hv2 : v < 2 ^ (b + 1)) (hw : 1 ≤ w) (hw2 : w < 2 ^ (b + 1)) :
    (upT b v ≤ loT b w ∨ upT b w ≤ loT b v) ↔ ¬ (aboveT v w ∨ aboveT w v) := by
  obtain ⟨a1, a2, a3⟩ := range_in hv hv2
  obtain ⟨b1, b2, b3⟩ := range_in hw hw2
  constructor
  · rintro h (k | k)
    · have := above_range hw hw2 k; omega
    · have := above_range hv hv2 k; omega
  · intro h
    have key : ∀ x y : Nat, 1 ≤ x → x < 2 ^ (b + 1) → 1 ≤ y → y < 2 ^ (b + 1) → lvlT x ≤ lvlT y → ¬ aboveT x y → upT b x ≤ loT b y ∨ upT b y ≤ loT b x := by
      intro x y hx hx2 hy hy2 hl hn
      obtain ⟨u1, u2⟩ := lvl_div (lvlT y - lvlT x) hy (by omega)
      have hr := range_div (b := b) (k := lvlT y - lvlT x) hy hy2 (by omega)
      have hne : y / 2 ^ (lvlT y - lvlT x) ≠ x := fun e => hn ⟨hl, e⟩
      have hle : lvlT (y / 2 ^ (lvlT y - lvlT x)) = lvlT x := by omega
      rcases Nat.lt_or_gt_of_ne hne with c | c
      · have := same_level (b := b) hle c; exact Or.inr (by omega)
      · have := same_level (b := b) hle.symm c; exact Or.inl (by omega)
    rcases Nat.le_total (lvlT v) (lvlT w) with c | c
    · exact key v w hv hv2 hw hw2 c (fun k => h (Or.inl k))
    · rcases key w v hw hw2 hv hv2 c (fun k => h (Or.inr k)) with k | k
      · exact Or.inr k
      · exact Or.inl k
/-- Told ahead. -/
def beforeT (b v w : Nat) : Bool := decide (upT b v < upT b w) || (decide (upT b v = upT b w) && decide (lvlT w < lvlT v))
theorem before_or {b v w : Nat} (hv : 1 ≤ v) (hw : 1 ≤ w) : (beforeT b v w || beforeT b w v) = !(v == w) ∧ (beforeT b v w && beforeT b w v) = false := by
  by_cases e : v = w
  · subst e; unfold beforeT; simp
  · have hne : (v == w) = false := by simp [e]
    rw [hne]
    unfold beforeT
    rcases Nat.lt_trichotomy (upT b v) (upT b w) with c | c | c
    · have : ¬ upT b w < upT b v := by omega
      have d : ¬ upT b w = upT b v := by omega
      simp [c, this, d]
    · have hl : lvlT v ≠ lvlT w := fun hl => by
        rcases Nat.lt_or_gt_of_ne e with k | k
        · have := same_level (b := b) hl k
          have hp := Nat.pow_pos (n := b - lvlT w) (show 0 < 2 by omega)
          have : loT b w < upT b w := by unfold loT upT; rw [Nat.add_mul]; omega
          omega
        · have := same_level (b := b) hl.symm k
          have hp := Nat.pow_pos (n := b - lvlT v) (show 0 < 2 by omega)
          have : loT b v < upT b v := by unfold loT upT; rw [Nat.add_mul]; omega
          omega
      rcases Nat.lt_or_gt_of_ne hl with k | k
      · have : ¬ lvlT w < lvlT v := by omega
        simp [c, k, this]
      · have : ¬ lvlT v < lvlT w := by omega
        simp [c, k, this]
    · have : ¬ upT b v < upT b w := by omega
      have d : ¬ upT b v = upT b w := by omega
      simp [c, this, d]
theorem before_trans {b v w x : Nat} (h : beforeT b v w = true) (k : beforeT b w x = true) : beforeT b v x = true := by
  unfold beforeT at *
  simp only [Bool.or_eq_true, Bool.and_eq_true, decide_eq_true_eq] at *
  omega
/-- Both nodes below one. -/
theorem halves {b v : Nat} (h : 1 ≤ v) (hb : lvlT v < b) : loT b (2 * v) = loT b v ∧ upT b (2 * v) = loT b (2 * v + 1) ∧ upT b (2 * v + 1) = upT b v := by
  obtain ⟨d1, d2⟩ := lvl_down h
  have e : 2 ^ (b - lvlT v) = 2 * 2 ^ (b - (lvlT v + 1)) := by rw [← Nat.pow_succ']; congr 1; omega
  unfold loT upT
  rw [d1, d2, e]
  refine ⟨?_, rfl, ?_⟩
  · rw [Nat.mul_comm 2 v, Nat.mul_assoc]
  · rw [show 2 * v + 1 + 1 = (v + 1) * 2 by omega, Nat.mul_assoc]
/-- A value's own node. -/
theorem leaf_is {b x : Nat} (h : x < 2 ^ b) : lvlT (2 ^ b + x) = b ∧ loT b (2 ^ b + x) = 2 ^ b + x ∧ upT b (2 ^ b + x) = 2 ^ b + x + 1 := by
  have hl : lvlT (2 ^ b + x) = b := lvl_is (by omega) (by rw [Nat.pow_succ]; omega)
  unfold loT upT
  rw [hl, Nat.sub_self, Nat.pow_zero, Nat.mul_one, Nat.mul_one]
  exact ⟨rfl, rfl, rfl⟩
/-- The nodes down to one: the last k of them. -/
def pathT (v k : Nat) : List Nat := (List.range k).map fun i => v / 2 ^ (k - 1 - i)
theorem path_len (v k : Nat) : (pathT v k).length = k := by unfold pathT; simp
theorem path_succ (v k : Nat) : pathT v (k + 1) = (v / 2 ^ k) :: pathT v k := by
  unfold pathT
  rw [List.range_succ_eq_map, List.map_cons, List.map_map]
  congr 1
  refine List.map_congr_left fun i hi => ?_
  show v / 2 ^ (k + 1 - 1 - (i + 1)) = v / 2 ^ (k - 1 - i)
  congr 2
  omega
theorem path_at (v k i : Nat) (h : i < k) : (pathT v k)[i]? = some (v / 2 ^ (k - 1 - i)) := by
  unfold pathT
  rw [List.getElem?_map, List.getElem?_range h]; rfl
theorem path_above {v w : Nat} (hw : 1 ≤ w) : v ∈ pathT w (lvlT w + 1) ↔ aboveT v w := by
  unfold pathT
  rw [List.mem_map]
  constructor
  · rintro ⟨i, hi, rfl⟩
    have hi := List.mem_range.1 hi
    obtain ⟨a, b⟩ := lvl_div (lvlT w + 1 - 1 - i) hw (by omega)
    refine ⟨by omega, ?_⟩
    rw [b, show lvlT w - (lvlT w - (lvlT w + 1 - 1 - i)) = lvlT w + 1 - 1 - i by omega]
  · rintro ⟨hl, e⟩
    refine ⟨lvlT v, List.mem_range.2 (by omega), ?_⟩
    rw [show lvlT w + 1 - 1 - lvlT v = lvlT w - lvlT v by omega]; exact e
theorem path_ends {v : Nat} (h : 1 ≤ v) {k : Nat} : 1 ≤ v / 2 ^ k ↔ k ≤ lvlT v := by
  obtain ⟨a, b⟩ := lvl_bd h
  constructor
  · intro hk
    by_cases c : k ≤ lvlT v
    · exact c
    · exfalso
      have := Nat.pow_le_pow_right (show 0 < 2 by omega) (show lvlT v + 1 ≤ k by omega)
      rw [Nat.div_eq_of_lt (by omega)] at hk; omega
  · intro hk; exact (lvl_div k h hk).1
/-- One node further down: the least value below it. -/
theorem range_step {b i u t : Nat} (h : i < b) : (2 * u + t) * 2 ^ (b - (i + 1)) = u * 2 ^ (b - i) + t * 2 ^ (b - (i + 1)) := by
  have e : 2 ^ (b - i) = 2 * 2 ^ (b - (i + 1)) := by rw [← Nat.pow_succ']; congr 1; omega
  rw [e, Nat.add_mul, ← Nat.mul_assoc, Nat.mul_comm u 2]
theorem div_step (v k : Nat) : v / 2 ^ k = 2 * (v / 2 ^ (k + 1)) + v / 2 ^ k % 2 := by
  have : v / 2 ^ (k + 1) = v / 2 ^ k / 2 := by rw [Nat.pow_succ, Nat.div_div_eq_div_mul]
  omega
end Go.Proofs.YtfmlkohijkalbaaGreat

/-
  Plain mathematics of a digest by a tree: no program in sight.
-/
namespace Go.Proofs.YtfmlkohijkalbaaGreat
set_option linter.unusedVariables false
set_option linter.unusedSimpArgs false

/-- What a row counts where a test holds. -/
def whereP (f : Int → Bool) (L : List PairV) : Int := sumP (L.filter fun p => f p.1)
theorem where_nil (f : Int → Bool) : whereP f [] = 0 := rfl
theorem where_cons (f : Int → Bool) (p : PairV) (r : List PairV) : whereP f (p :: r) = (if f p.1 = true then p.2 else 0) + whereP f r := by
  unfold whereP
  cases h : f p.1 with
  | true => rw [List.filter_cons_of_pos (by simpa using h), sumP_cons]; simp
  | false => rw [List.filter_cons_of_neg (by simp [h])]; simp
theorem where_app (f : Int → Bool) (A B : List PairV) : whereP f (A ++ B) = whereP f A + whereP f B := by unfold whereP; rw [List.filter_append, sumP_app]
theorem where_one (L : List PairV) (i : Int) : whereP (fun j => j == i) L = countP L i := rfl
theorem where_all (L : List PairV) : whereP (fun _ => true) L = sumP L := by
  unfold whereP; rw [List.filter_eq_self.2 (fun p _ => rfl)]
theorem where_pos {f : Int → Bool} {L : List PairV} (h : ∀ p, p ∈ L → 0 ≤ p.2) : 0 ≤ whereP f L := sumP_pos fun p hp => h p (List.mem_filter.1 hp).1
theorem where_le {f g : Int → Bool} {L : List PairV} (h : ∀ p, p ∈ L → 0 ≤ p.2) (k : ∀ p, p ∈ L → f p.1 = true → g p.1 = true) : whereP f L ≤ whereP g L := by
  induction L with
  | nil => exact Int.le_refl _
  | cons p r ih =>
    rw [where_cons, where_cons]
    have h1 := ih (fun q hq => h q (List.mem_cons_of_mem _ hq)) (fun q hq => k q (List.mem_cons_of_mem _ hq))
    have h2 := h p List.mem_cons_self
    have h3 := k p List.mem_cons_self
    cases hf : f p.1 with
    | true => rw [h3 hf]; simp; omega
    | false => simp only [Bool.false_eq_true, if_false]; split <;> omega
theorem where_sum {f : Int → Bool} {L : List PairV} (h : ∀ p, p ∈ L → 0 ≤ p.2) : whereP f L ≤ sumP L := by
  rw [← where_all]; exact where_le h fun _ _ _ => rfl
theorem where_add {L : List PairV} (f : Int → Bool) {i c : Int} (h : GoodP L) (h0 : 0 ≤ c) : whereP f (addP L i c) = whereP f L + if f i = true then c else 0 := by
  unfold addP
  rw [where_app, where_app]
  have hm : ∀ n : Int, 0 ≤ n → whereP f (midP i n) = if f i = true then n else 0 := fun n hn => by
    unfold midP
    by_cases c0 : 0 < n
    · rw [if_pos c0, where_cons, where_nil]; simp
    · rw [if_neg c0, where_nil]; split <;> omega
  rcases good_part i h with ⟨n, e, hc, h1⟩ | ⟨e, hc⟩
  · rw [hc, hm _ (by omega)]
    conv => rhs; rw [← e]
    rw [where_app, where_cons]
    split <;> omega
  · rw [hc, hm _ (by omega)]
    conv => rhs; rw [← e]
    rw [where_app]
    split <;> omega
/-- Three indices put aside. -/
def restD (L : List PairV) (a b c : Int) : List PairV := L.filter fun p => !(p.1 == a) && !(p.1 == b) && !(p.1 == c)
theorem where_rest (f : Int → Bool) {a b c : Int} (hab : a ≠ b) (hac : a ≠ c) (hbc : b ≠ c) (L : List PairV) :
    whereP f L = whereP f (restD L a b c) + (if f a = true then countP L a else 0) + (if f b = true then countP L b else 0) + (if f c = true then countP L c else 0) := by
  induction L with
  | nil => simp [restD, where_nil, countP, sumP_nil]
  | cons p r ih =>
    obtain ⟨i, n⟩ := p
    rw [where_cons, count_cons, count_cons, count_cons, ih]
    unfold restD
    simp only
    by_cases ea : i = a
    · subst ea
      rw [List.filter_cons_of_neg (by simp)]
      rw [if_pos rfl, if_neg hab, if_neg hac]
      cases f i <;> cases f b <;> cases f c <;> simp <;> omega
    · by_cases eb : i = b
      · subst eb
        rw [List.filter_cons_of_neg (by simp)]
        rw [if_neg ea, if_pos rfl, if_neg hbc]
        cases f i <;> cases f a <;> cases f c <;> simp <;> omega
      · by_cases ec : i = c
        · subst ec
          rw [List.filter_cons_of_neg (by simp)]
          rw [if_neg ea, if_neg eb, if_pos rfl]
          cases f i <;> cases f a <;> cases f b <;> simp <;> omega
        · rw [List.filter_cons_of_pos (by simp [ea, eb, ec]), where_cons, if_neg ea, if_neg eb, if_neg ec]
          simp only
          cases f i <;> cases f a <;> cases f b <;> cases f c <;> simp <;> omega
/-- The node beside one. -/
def sibD (v : Int) : Int := if v % 2 = 1 then v - 1 else v + 1
theorem sib_apart {v : Int} (h : 2 ≤ v) : v ≠ sibD v ∧ v ≠ v / 2 ∧ sibD v ≠ v / 2 ∧ sibD v / 2 = v / 2 ∧ 2 ≤ sibD v := by unfold sibD; split <;> omega
/-- A node, the one beside it, the one above: their counts. -/
def triD (R : List PairV) (v : Int) : Int := countP R v + countP R (sibD v) + countP R (v / 2)
def liftB (q : Int) (R : List PairV) (v : Int) : Bool := !(v == 1) && !(countP R v == 0) && decide (triD R v ≤ q)
/-- Counts that go up from a node. -/
def liftD (q : Int) (R : List PairV) (v : Int) : List PairV := if liftB q R v = true then addP (restD R v (sibD v) (v / 2)) (v / 2) (triD R v) else R
theorem lift_no {q : Int} {R : List PairV} {v : Int} (h : liftB q R v = false) : liftD q R v = R := by unfold liftD; rw [h]; rfl
theorem count_posD {L : List PairV} (h : GoodP L) (i : Int) : 0 ≤ countP L i := sumP_pos fun p hp => by have := h.1 p (List.mem_filter.1 hp).1; omega
theorem tri_pos {L : List PairV} (h : GoodP L) (v : Int) : 0 ≤ triD L v := by
  unfold triD
  have := count_posD h v; have := count_posD h (sibD v); have := count_posD h (v / 2); omega
theorem count_rest (L : List PairV) {a b c : Int} : countP (restD L a b c) c = 0 := by
  unfold countP restD
  rw [List.filter_filter, List.filter_eq_nil_iff.2, sumP_nil]
  intro p _
  simp
  intro h; simp [h]
theorem liftB_is {q : Int} {R : List PairV} {v : Int} (h : liftB q R v = true) : v ≠ 1 ∧ countP R v ≠ 0 ∧ triD R v ≤ q := by
  unfold liftB at h
  simpa [and_assoc] using h
/-- What a lift does to a sum. -/
theorem lift_where {q : Int} {R : List PairV} {v : Int} (f : Int → Bool) (hg : GoodP R) (hv : 1 ≤ v) (h : liftB q R v = true) :
    whereP f (liftD q R v) = whereP f R + ((if f (v / 2) = true then countP R v else 0) - (if f v = true then countP R v else 0)) + ((if f (v / 2) = true then countP R (sibD v) else 0) - (if f (sibD v) = true then countP R (sibD v) else 0)) := by
  obtain ⟨h1, _, _⟩ := liftB_is h
  obtain ⟨a, b, c, _, _⟩ := sib_apart (show 2 ≤ v by omega)
  unfold liftD
  rw [if_pos h, where_add f (show GoodP (restD R v (sibD v) (v / 2)) from good_filter _ hg) (tri_pos hg v), where_rest f a b c R]
  unfold triD
  cases f v <;> cases f (sibD v) <;> cases f (v / 2) <;> simp <;> omega
theorem lift_sum {q : Int} {R : List PairV} {v : Int} (hg : GoodP R) (hv : 1 ≤ v) : sumP (liftD q R v) = sumP R := by
  cases h : liftB q R v with
  | false => rw [lift_no h]
  | true => rw [← where_all, lift_where _ hg hv h, where_all]; simp
theorem lift_up {q : Int} {R : List PairV} {v : Int} {f : Int → Bool} (hg : GoodP R) (hv : 1 ≤ v) (h1 : f v = true → f (v / 2) = true) (h2 : f (sibD v) = true → f (v / 2) = true) : whereP f R ≤ whereP f (liftD q R v) := by
  cases h : liftB q R v with
  | false => rw [lift_no h]; exact Int.le_refl _
  | true =>
    rw [lift_where _ hg hv h]
    have c1 := count_posD hg v
    have c2 := count_posD hg (sibD v)
    cases e : f (v / 2) with
    | true => simp; split <;> split <;> omega
    | false =>
      have n1 : f v = false := by cases k : f v with | false => rfl | true => rw [h1 k] at e; cases e
      have n2 : f (sibD v) = false := by cases k : f (sibD v) with | false => rfl | true => rw [h2 k] at e; cases e
      rw [n1, n2]; simp
theorem lift_down {q : Int} {R : List PairV} {v : Int} {f : Int → Bool} (hg : GoodP R) (hv : 1 ≤ v) (h1 : f (v / 2) = true → f v = true ∧ f (sibD v) = true) : whereP f (liftD q R v) ≤ whereP f R := by
  cases h : liftB q R v with
  | false => rw [lift_no h]; exact Int.le_refl _
  | true =>
    rw [lift_where _ hg hv h]
    have c1 := count_posD hg v
    have c2 := count_posD hg (sibD v)
    cases e : f (v / 2) with
    | true => rw [(h1 e).1, (h1 e).2]; simp
    | false => simp; split <;> split <;> omega
theorem lift_good {q : Int} {R : List PairV} {v : Int} (hg : GoodP R) (hs : sumP R ≤ 9223372036854775807) (hv : 1 ≤ v) : GoodP (liftD q R v) := by
  cases h : liftB q R v with
  | false => rw [lift_no h]; exact hg
  | true =>
    obtain ⟨h1, _, _⟩ := liftB_is h
    obtain ⟨a, b, c, _, _⟩ := sib_apart (show 2 ≤ v by omega)
    unfold liftD
    rw [if_pos h]
    refine add_good (good_filter _ hg) ?_
    have hw := where_rest (fun _ => true) a b c R
    rw [where_all, where_all] at hw
    have hp : 0 ≤ sumP (restD R v (sibD v) (v / 2)) := sumP_pos fun p hp => by have := hg.1 p (List.mem_filter.1 hp).1; omega
    have hc := count_rest R (a := v) (b := sibD v) (c := v / 2)
    simp at hw
    show countP (restD R v (sibD v) (v / 2)) (v / 2) + triD R v ≤ _
    rw [hc]
    unfold triD; omega
theorem add_memD {L : List PairV} {i c : Int} {p : PairV} (h : p ∈ addP L i c) : p ∈ L ∨ (p.1 = i ∧ p.2 = countP L i + c) := by
  unfold addP at h
  rcases List.mem_append.1 h with h | h
  · exact Or.inl (lowP_mem h).1
  · rcases List.mem_append.1 h with h | h
    · unfold midP at h
      split at h
      · have := List.mem_singleton.1 h; subst this; exact Or.inr ⟨rfl, rfl⟩
      · cases h
    · exact Or.inl (highP_mem h).1
/-- Where a lift's pairs come from. -/
theorem lift_mem {q : Int} {R : List PairV} {v : Int} {p : PairV} (h : p ∈ liftD q R v) : p ∈ R ∨ (p.1 = v / 2 ∧ p.2 ≤ q ∧ liftB q R v = true) := by
  cases hb : liftB q R v with
  | false => rw [lift_no hb] at h; exact Or.inl h
  | true =>
    unfold liftD at h
    rw [if_pos hb] at h
    rcases add_memD h with h | ⟨h1, h2⟩
    · exact Or.inl (List.mem_filter.1 h).1
    · have := count_rest R (a := v) (b := sibD v) (c := v / 2)
      rw [this] at h2
      exact Or.inr ⟨h1, by have := (liftB_is hb).2.2; omega, rfl⟩
/-- What goes down with each lift. -/
def idxSum (L : List PairV) : Int := (L.map fun p => p.1).sum
theorem idx_cons (p : PairV) (r : List PairV) : idxSum (p :: r) = p.1 + idxSum r := by unfold idxSum; simp
theorem idx_app (A B : List PairV) : idxSum (A ++ B) = idxSum A + idxSum B := by unfold idxSum; rw [List.map_append, List.sum_append]
theorem idx_pos {L : List PairV} (h : ∀ p, p ∈ L → 0 ≤ p.1) : 0 ≤ idxSum L := by
  induction L with
  | nil => exact Int.le_refl _
  | cons p r ih => rw [idx_cons]; have := h p List.mem_cons_self; have := ih fun q hq => h q (List.mem_cons_of_mem _ hq); omega
theorem idx_le {L : List PairV} (f : PairV → Bool) (h : ∀ p, p ∈ L → 0 ≤ p.1) : idxSum (L.filter f) ≤ idxSum L := by
  induction L with
  | nil => exact Int.le_refl _
  | cons p r ih =>
    have h0 := h p List.mem_cons_self
    have h1 := ih fun q hq => h q (List.mem_cons_of_mem _ hq)
    rw [List.filter_cons]
    split
    · rw [idx_cons, idx_cons]; omega
    · rw [idx_cons]; omega
theorem idx_filter {L : List PairV} (f : PairV → Bool) (h : ∀ p, p ∈ L → 0 ≤ p.1) {v : PairV} (hv : v ∈ L) (hf : f v = false) : idxSum (L.filter f) + v.1 ≤ idxSum L := by
  induction L with
  | nil => cases hv
  | cons p r ih =>
    have h' := fun q hq => h q (List.mem_cons_of_mem p hq)
    have h0 := h p List.mem_cons_self
    have hle := idx_le (L := r) f h'
    rcases List.mem_cons.1 hv with e | e
    · subst e
      rw [List.filter_cons_of_neg (by simp [hf]), idx_cons]; omega
    · have := ih h' e
      rw [List.filter_cons]
      split
      · rw [idx_cons, idx_cons]; omega
      · rw [idx_cons]; omega
theorem idx_low (L : List PairV) (i : Int) (hc : ∀ p, p ∈ L → p.1 ≠ i) : idxSum (lowP L i) + idxSum (highP L i) = idxSum L := by
  induction L with
  | nil => rfl
  | cons p r ih =>
    have h := ih fun q hq => hc q (List.mem_cons_of_mem _ hq)
    have h0 := hc p List.mem_cons_self
    unfold lowP highP at *
    by_cases c : p.1 < i
    · rw [List.filter_cons_of_pos (by simpa using c), List.filter_cons_of_neg (by simp; omega), idx_cons, idx_cons]; omega
    · rw [List.filter_cons_of_neg (by simpa using c), List.filter_cons_of_pos (by simp; omega), idx_cons, idx_cons]; omega
theorem count_memD {L : List PairV} {i : Int} (h : countP L i ≠ 0) : ∃ p, p ∈ L ∧ p.1 = i := by
  unfold countP at h
  cases e : L.filter fun p => p.1 == i with
  | nil => rw [e] at h; exact absurd rfl h
  | cons p r =>
    have : p ∈ L.filter fun p => p.1 == i := by rw [e]; exact List.mem_cons_self
    obtain ⟨a, b⟩ := List.mem_filter.1 this
    exact ⟨p, a, by simpa using b⟩
theorem lift_idx {q : Int} {R : List PairV} {v : Int} (hi : ∀ p, p ∈ R → 1 ≤ p.1) (hv : 1 ≤ v) (h : liftB q R v = true) : idxSum (liftD q R v) < idxSum R := by
  obtain ⟨h1, h2, _⟩ := liftB_is h
  obtain ⟨⟨i, n⟩, hp, e⟩ := count_memD h2
  simp only at e
  subst e
  have hf := idx_filter (fun p : PairV => !(p.1 == i) && !(p.1 == sibD i) && !(p.1 == i / 2)) (fun p hp => by have := hi p hp; omega) hp (by simp)
  unfold liftD
  rw [if_pos h]
  unfold addP
  have hr := idx_low (restD R i (sibD i) (i / 2)) (i / 2) (fun p hp => by
    have := (List.mem_filter.1 hp).2
    simp at this
    exact this.2)
  have hm : idxSum (midP (i / 2) (countP (restD R i (sibD i) (i / 2)) (i / 2) + triD R i)) ≤ i / 2 := by
    unfold midP; split
    · rw [idx_cons]; show i / 2 + 0 ≤ i / 2; omega
    · show (0 : Int) ≤ i / 2; omega
  rw [idx_app, idx_app]
  have hf' : idxSum (restD R i (sibD i) (i / 2)) + i ≤ idxSum R := hf
  omega
end Go.Proofs.YtfmlkohijkalbaaGreat

/-
  The ends of values, and how many lie up to one: mathematics, and the reference's Ends and Up. (tools/gen_gw_e.py, out of DigW)
-/
namespace Go.Proofs.YtfmlkohijkalbaaGreat
set_option linter.unusedVariables false
set_option linter.unusedSimpArgs false
open Go.RowKit

theorem where_snocW {L : List PairV} {i : Nat} {p : PairV} (f : Int → Bool) (h : L[i]? = some p) : whereP f (L.take (i + 1)) = whereP f (L.take i) + if f p.1 = true then p.2 else 0 := by
  rw [take_snocP h, where_app, where_cons, where_nil, Int.add_zero]
theorem where_partW {L : List PairV} (f : Int → Bool) (h : ∀ p, p ∈ L → 0 ≤ p.2) (i : Nat) : 0 ≤ whereP f (L.take i) ∧ whereP f (L.take i) ≤ sumP L := by
  have h' : ∀ p, p ∈ L.take i → 0 ≤ p.2 := fun p hp => h p (List.mem_of_mem_take hp)
  exact ⟨where_pos h', Int.le_trans (where_sum h') (sumP_take i h).2⟩
/-- How many values lie up to one, and below it: of all of them. -/
theorem where_up {A : List PairV} (h : ∀ p, p ∈ A → 0 ≤ p.2) (x : Int) : whereP (fun y => decide (y ≤ x)) A = upV (allG A) x ∧ whereP (fun y => decide (y < x)) A = unV (allG A) x ∧ sumP A = (allG A).length := by
  induction A with
  | nil => exact ⟨rfl, rfl, rfl⟩
  | cons p r ih =>
    obtain ⟨i1, i2, i3⟩ := ih fun q hq => h q (List.mem_cons_of_mem _ hq)
    have h0 := h p List.mem_cons_self
    have e : allG (p :: r) = List.replicate p.2.toNat p.1 ++ allG r := by unfold allG; rw [List.flatMap_cons]
    have t : ((p.2.toNat : Nat) : Int) = p.2 := Int.toNat_of_nonneg h0
    rw [e, where_cons, where_cons, upV_app, unV_app, up_rep, un_rep, i1, i2, sumP_cons, i3, List.length_append, List.length_replicate, t, Int.natCast_add, t]
    simp only [decide_eq_true_eq]
    exact ⟨trivial, trivial, trivial⟩
/-- The least and the greatest of values, from one on. -/
def loFD (x : Int) (A : List PairV) : Int := A.foldl (fun a v => min a v.1) x
def hiFD (x : Int) (A : List PairV) : Int := A.foldl (fun a v => max a v.1) x
theorem lof_snocD (x : Int) (A : List PairV) (v : PairV) : loFD x (A ++ [v]) = min (loFD x A) v.1 := by unfold loFD; rw [List.foldl_append]; rfl
theorem hif_snocD (x : Int) (A : List PairV) (v : PairV) : hiFD x (A ++ [v]) = max (hiFD x A) v.1 := by unfold hiFD; rw [List.foldl_append]; rfl
theorem lof_appD (x : Int) (A B : List PairV) : loFD x (A ++ B) = loFD (loFD x A) B := by unfold loFD; rw [List.foldl_append]
theorem hif_appD (x : Int) (A B : List PairV) : hiFD x (A ++ B) = hiFD (hiFD x A) B := by unfold hiFD; rw [List.foldl_append]
theorem lof_leD : ∀ (A : List PairV) (x : Int), loFD x A ≤ x ∧ ∀ v, v ∈ A → loFD x A ≤ v.1 := by
  intro A
  induction A with
  | nil => intro x; exact ⟨Int.le_refl _, fun v h => (by cases h)⟩
  | cons a r ih =>
    intro x
    obtain ⟨h1, h2⟩ := ih (min x a.1)
    have e : loFD x (a :: r) = loFD (min x a.1) r := rfl
    rw [e]
    refine ⟨by omega, fun v hv => ?_⟩
    rcases List.mem_cons.1 hv with rfl | hv
    · omega
    · exact h2 v hv
theorem hif_geD : ∀ (A : List PairV) (x : Int), x ≤ hiFD x A ∧ ∀ v, v ∈ A → v.1 ≤ hiFD x A := by
  intro A
  induction A with
  | nil => intro x; exact ⟨Int.le_refl _, fun v h => (by cases h)⟩
  | cons a r ih =>
    intro x
    obtain ⟨h1, h2⟩ := ih (max x a.1)
    have e : hiFD x (a :: r) = hiFD (max x a.1) r := rfl
    rw [e]
    refine ⟨by omega, fun v hv => ?_⟩
    rcases List.mem_cons.1 hv with rfl | hv
    · omega
    · exact h2 v hv
theorem lof_memD : ∀ (A : List PairV) (x : Int), loFD x A = x ∨ ∃ v, v ∈ A ∧ v.1 = loFD x A := by
  intro A
  induction A with
  | nil => intro x; exact Or.inl rfl
  | cons a r ih =>
    intro x
    have e : loFD x (a :: r) = loFD (min x a.1) r := rfl
    rw [e]
    rcases ih (min x a.1) with h | ⟨v, hv, h⟩
    · by_cases c : x ≤ a.1
      · exact Or.inl (by omega)
      · exact Or.inr ⟨a, by simp, by omega⟩
    · exact Or.inr ⟨v, by simp [hv], h⟩
theorem hif_memD : ∀ (A : List PairV) (x : Int), hiFD x A = x ∨ ∃ v, v ∈ A ∧ v.1 = hiFD x A := by
  intro A
  induction A with
  | nil => intro x; exact Or.inl rfl
  | cons a r ih =>
    intro x
    have e : hiFD x (a :: r) = hiFD (max x a.1) r := rfl
    rw [e]
    rcases ih (max x a.1) with h | ⟨v, hv, h⟩
    · by_cases c : a.1 ≤ x
      · exact Or.inl (by omega)
      · exact Or.inr ⟨a, by simp, by omega⟩
    · exact Or.inr ⟨v, by simp [hv], h⟩
/-- The ends of all values: noughts, if there are none. -/
def loVD (A : List PairV) : Int := match A with | [] => 0 | v :: r => loFD v.1 (v :: r)
def hiVD (A : List PairV) : Int := match A with | [] => 0 | v :: r => hiFD v.1 (v :: r)
theorem lov_ofD {A : List PairV} {x : Int} (h : ∃ v, v ∈ A ∧ v.1 = x) (hx : ∀ v, v ∈ A → x ≤ v.1) : loVD A = x := by
  obtain ⟨v, hv, e⟩ := h
  cases A with
  | nil => cases hv
  | cons a r =>
    show loFD a.1 (a :: r) = x
    have h1 := (lof_leD (a :: r) a.1).2 v hv
    rcases lof_memD (a :: r) a.1 with h | ⟨u, hu, h⟩
    · have := hx a (by simp); omega
    · have := hx u hu; omega
theorem hiv_ofD {A : List PairV} {x : Int} (h : ∃ v, v ∈ A ∧ v.1 = x) (hx : ∀ v, v ∈ A → v.1 ≤ x) : hiVD A = x := by
  obtain ⟨v, hv, e⟩ := h
  cases A with
  | nil => cases hv
  | cons a r =>
    show hiFD a.1 (a :: r) = x
    have h1 := (hif_geD (a :: r) a.1).2 v hv
    rcases hif_memD (a :: r) a.1 with h | ⟨u, hu, h⟩
    · have := hx a (by simp); omega
    · have := hx u hu; omega
theorem lov_factsD {A : List PairV} (h : A ≠ []) : (∃ v, v ∈ A ∧ v.1 = loVD A) ∧ ∀ v, v ∈ A → loVD A ≤ v.1 := by
  cases A with
  | nil => exact absurd rfl h
  | cons a r =>
    refine ⟨?_, (lof_leD (a :: r) a.1).2⟩
    rcases lof_memD (a :: r) a.1 with h | ⟨u, hu, h⟩
    · exact ⟨a, by simp, h.symm⟩
    · exact ⟨u, hu, h⟩
theorem hiv_factsD {A : List PairV} (h : A ≠ []) : (∃ v, v ∈ A ∧ v.1 = hiVD A) ∧ ∀ v, v ∈ A → v.1 ≤ hiVD A := by
  cases A with
  | nil => exact absurd rfl h
  | cons a r =>
    refine ⟨?_, (hif_geD (a :: r) a.1).2⟩
    rcases hif_memD (a :: r) a.1 with h | ⟨u, hu, h⟩
    · exact ⟨a, by simp, h.symm⟩
    · exact ⟨u, hu, h⟩
theorem ends_appD {A B : List PairV} (hA : A ≠ []) (hB : B ≠ []) : loVD (A ++ B) = min (loVD A) (loVD B) ∧ hiVD (A ++ B) = max (hiVD A) (hiVD B) := by
  obtain ⟨⟨a, ha, ea⟩, la⟩ := lov_factsD hA
  obtain ⟨⟨b, hb, eb⟩, lb⟩ := lov_factsD hB
  obtain ⟨⟨c, hc, ec⟩, hc'⟩ := hiv_factsD hA
  obtain ⟨⟨d, hd, ed⟩, hd'⟩ := hiv_factsD hB
  constructor
  · refine lov_ofD ?_ fun v hv => ?_
    · by_cases h : loVD A ≤ loVD B
      · exact ⟨a, by simp [ha], by omega⟩
      · exact ⟨b, by simp [hb], by omega⟩
    · rcases List.mem_append.1 hv with h | h
      · have := la v h; omega
      · have := lb v h; omega
  · refine hiv_ofD ?_ fun v hv => ?_
    · by_cases h : hiVD B ≤ hiVD A
      · exact ⟨c, by simp [hc], by omega⟩
      · exact ⟨d, by simp [hd], by omega⟩
    · rcases List.mem_append.1 hv with h | h
      · have := hc' v h; omega
      · have := hd' v h; omega
theorem ends_oneD (v : PairV) : loVD [v] = v.1 ∧ hiVD [v] = v.1 := by
  constructor
  · show min v.1 v.1 = v.1; omega
  · show max v.1 v.1 = v.1; omega
theorem ends_snocD {A : List PairV} (hA : A ≠ []) (v : PairV) : loVD (A ++ [v]) = min (loVD A) v.1 ∧ hiVD (A ++ [v]) = max (hiVD A) v.1 := by
  have h := ends_appD hA (B := [v]) (by simp)
  rw [(ends_oneD v).1, (ends_oneD v).2] at h
  exact h
/-- What Ends tells of values. -/
def endAD (A : List PairV) : Int × Int × Bool := if A = [] then (0, 0, false) else (loVD A, hiVD A, true)
theorem ret_endsD {a b x y : Int} {c : Bool} (h : a = x) (h' : b = y) : Ending.returned (.tuple #[.int .i64 a, .int .i64 b, .bool c]) = .returned (.tuple #[.int .i64 x, .int .i64 y, .bool c]) := by rw [h, h']
theorem lof_bdD {A : List PairV} (h : ∀ p, p ∈ A → okP p) {x : Int} (hx : I64 x) : I64 (loFD x A) := by
  rcases lof_memD A x with e | ⟨v, hv, e⟩
  · rw [e]; exact hx
  · rw [← e]; exact (h v hv).1
theorem hif_bdD {A : List PairV} (h : ∀ p, p ∈ A → okP p) {x : Int} (hx : I64 x) : I64 (hiFD x A) := by
  rcases hif_memD A x with e | ⟨v, hv, e⟩
  · rw [e]; exact hx
  · rw [← e]; exact (h v hv).1

set_option maxRecDepth 100000 in
set_option maxHeartbeats 1000000 in
theorem rends19_any (w : World) (a : Option Addr) (cap : Nat) (A : List PairV) (x y : Int) (b : Bool) (h : Pairs w a A) (hl : A.length ≤ 1000) (he : endAD A = (x, y, b)) :
    Calls Tryz.prog 10 #[.slice a A.length cap] w fun e w' => e = .returned (.tuple #[.int .i64 x, .int .i64 y, .bool b]) ∧ Below w.heap.size w w' := by
  have HI := Lib.hid h
  cases A with
  | nil =>
    have e : endAD [] = (0, 0, false) := rfl
    rw [e] at he
    obtain ⟨rfl, rfl, rfl⟩ : 0 = x ∧ 0 = y ∧ false = b := by simpa using he
    clear h he e
    go_enter Tryz.func10, Tryz.ntmps10
    go_wp2_with fail
    go_ret3
    exact ⟨rfl, Below.refl _ _⟩
  | cons p0 r =>
    have e : endAD (p0 :: r) = (loFD p0.1 (p0 :: r), hiFD p0.1 (p0 :: r), true) := by unfold endAD; rw [if_neg (by simp)]; rfl
    rw [e] at he
    obtain ⟨h1, h2, rfl⟩ : loFD p0.1 (p0 :: r) = x ∧ hiFD p0.1 (p0 :: r) = y ∧ true = b := by simpa using he
    have HX := Lib.hid h1
    have HY := Lib.hid h2
    have h0 : (p0 :: r)[0]? = some p0 := rfl
    have n0 : 0 < (p0 :: r).length := by simp
    have HLB := Lib.hid (fun k => lof_bdD (A := (p0 :: r).take k) (fun p hp => h.ok p (List.mem_of_mem_take hp)) (h.ok _ (List.mem_of_getElem? h0)).1)
    have HHB := Lib.hid (fun k => hif_bdD (A := (p0 :: r).take k) (fun p hp => h.ok p (List.mem_of_mem_take hp)) (h.ok _ (List.mem_of_getElem? h0)).1)
    generalize p0 :: r = A at *
    obtain ⟨x0, n0'⟩ := p0
    obtain ⟨b0, off0, rfl, hbl0, d0, d1⟩ := HI.out.at_ 0 _ h0
    have hk0 := HI.out.ok _ (List.mem_of_getElem? h0)
    obtain ⟨⟨z1, z2⟩, z3, z4⟩ := hk0
    simp only [Nat.zero_mul, Nat.mul_zero, Nat.add_zero] at d0 d1 z1 z2 z3 z4 HX HY HLB HHB
    have nz : ((A.length : Int) == 0) = false := by rw [beq_eq_false_iff_ne]; omega
    clear h he e h1 h2 h0
    go_enter Tryz.func10, Tryz.ntmps10
    go_wp2_with fail
    go_loopw [5, 6, 22] (fun l g j wr => ∃ k : Nat, k ≤ A.length ∧ j = .int .i64 k ∧ l = .int .i64 (loFD x0 (A.take k)) ∧ g = .int .i64 (hiFD x0 (A.take k)) ∧ Below w.heap.size w wr) (fun _ _ j _ => A.length - (intOf j).toNat)
    case atStart => exact ⟨0, Nat.zero_le _, rfl, rfl, rfl, Below.refl _ _⟩
    case round =>
      obtain ⟨k, hk, rfl, rfl, rfl, hb2⟩ := hrel
      have hlb := HLB.out k
      have hhb := HHB.out k
      obtain ⟨LO, hLO⟩ : ∃ LO, loFD x0 (A.take k) = LO := ⟨_, rfl⟩
      obtain ⟨HI2, hHI2⟩ : ∃ HI2, hiFD x0 (A.take k) = HI2 := ⟨_, rfl⟩
      rw [hLO] at hlb
      rw [hHI2] at hhb
      rw [hLO, hHI2]
      obtain ⟨y0, y1⟩ := hlb
      obtain ⟨y2, y3⟩ := hhb
      have HLO := Lib.hid hLO
      have HHI := Lib.hid hHI2
      clear hLO hHI2
      by_cases hlt : k < A.length
      · have kk : (k : Int) < A.length := by omega
        have hxk : A[k]? = some A[k] := List.getElem?_eq_getElem hlt
        generalize hit : A[k] = p at *
        obtain ⟨px, pc⟩ := p
        obtain ⟨b, off, e2, hbl, c0, c1⟩ := (HI.out.call hb2).at_ k _ hxk
        obtain ⟨rfl, rfl⟩ : b0 = b ∧ off0 = off := by simpa using e2
        have HS1 : Hid (loFD x0 (A.take (k + 1)) = min LO px) := Lib.hid (by rw [take_snocP hxk, lof_snocD, HLO.out])
        have HS2 : Hid (hiFD x0 (A.take (k + 1)) = max HI2 px) := Lib.hid (by rw [take_snocP hxk, hif_snocD, HHI.out])
        have hok := HI.out.ok _ (List.mem_of_getElem? hxk)
        obtain ⟨⟨o1, o2⟩, o3, o4⟩ := hok
        have hbs := hb2.size
        simp only at c0 c1 o1 o2 o3 o4 HS1 HS2
        clear hxk hit e2
        go_wp2_with fail
        all_goals
          go_roundw
          case rel => exact ⟨k + 1, by omega, by go_num, by rw [HS1.out], by rw [HS2.out], hb2.alloc hbs _⟩
          case measure => simp [intOf]; omega
      · obtain rfl : k = A.length := by omega
        rw [List.take_length] at HLO HHI
        have kk : ¬ (A.length : Int) < A.length := by omega
        have E : Hid (LO = x ∧ HI2 = y) := Lib.hid ⟨by rw [← HLO.out]; exact HX.out, by rw [← HHI.out]; exact HY.out⟩
        go_wp2_with fail
        go_ret3
        exact ⟨ret_endsD E.out.1 E.out.2, hb2⟩

set_option maxRecDepth 100000 in
set_option maxHeartbeats 1000000 in
theorem rup19_any (w : World) (a : Option Addr) (cap : Nat) (A : List PairV) (x n : Int) (h : Pairs w a A) (hx : I64 x) (hl : A.length ≤ 1000) (hb : sumP A < 18446744073709551616) (hn : whereP (fun y => decide (y ≤ x)) A = n) :
    Calls Tryz.prog 41 #[.slice a A.length cap, .int .i64 x] w fun e w' => e = .returned (.int .u64 n) ∧ Below w.heap.size w w' := by
  have HI := Lib.hid h
  have HN := Lib.hid hn
  have HP := Lib.hid (fun k => where_partW (L := A) (fun y => decide (y ≤ x)) (ok_pos h.ok) k)
  obtain ⟨x0, x1⟩ := hx
  clear h hn
  go_enter Tryz.func41, Tryz.ntmps41
  go_wp2_with fail
  go_loopw [5, 10] (fun s j wr => ∃ (k : Nat) (m : Int), k ≤ A.length ∧ j = .int .i64 k ∧ s = .int .u64 m ∧ m = whereP (fun y => decide (y ≤ x)) (A.take k) ∧ Below w.heap.size w wr) (fun _ j _ => A.length - (intOf j).toNat)
  case atStart => exact ⟨0, 0, Nat.zero_le _, rfl, rfl, rfl, Below.refl _ _⟩
  case round =>
    obtain ⟨k, m, hk, rfl, rfl, hm, hb2⟩ := hrel
    have HM := Lib.hid hm
    by_cases hlt : k < A.length
    · have kk : (k : Int) < A.length := by omega
      have hxk : A[k]? = some A[k] := List.getElem?_eq_getElem hlt
      generalize hit : A[k] = p at *
      obtain ⟨px, pc⟩ := p
      obtain ⟨b, off, rfl, hbl, c0, c1⟩ := (HI.out.call hb2).at_ k _ hxk
      have HS := Lib.hid (where_snocW (fun y => decide (y ≤ x)) hxk)
      have hok := HI.out.ok _ (List.mem_of_getElem? hxk)
      have p1 := HP.out (k + 1)
      have p0 := HP.out k
      rw [HS.out] at p1
      rw [← hm] at p0 p1
      have hbs := hb2.size
      obtain ⟨⟨o1, o2⟩, o3, o4⟩ := hok
      simp only [decide_eq_true_eq] at c0 c1 o1 o2 o3 o4 p1 HS
      clear hxk hit hm
      by_cases he : px ≤ x
      · rw [if_pos he] at p1 HS
        obtain ⟨p2, p3⟩ := p1
        obtain ⟨p4, _⟩ := p0
        go_wp2_with fail
        go_roundw
        case rel => exact ⟨k + 1, m + pc, by omega, by go_num, rfl, by rw [HS.out, HM.out], hb2.alloc hbs _⟩
        case measure => simp [intOf]; omega
      · rw [if_neg he] at p1 HS
        clear p0 p1
        go_wp2_with fail
        go_roundw
        case rel => exact ⟨k + 1, m, by omega, by go_num, rfl, by rw [HS.out, HM.out, Int.add_zero], hb2.alloc hbs _⟩
        case measure => simp [intOf]; omega
    · obtain rfl : k = A.length := by omega
      rw [List.take_length] at HM
      have E : Hid (m = n) := Lib.hid (by rw [HM.out]; exact HN.out)
      have kk : ¬ (A.length : Int) < A.length := by omega
      clear hm
      go_wp2_with fail
      go_ret
      exact ⟨ret_int E.out, hb2⟩

theorem endA_snoc (A : List PairV) (v : PairV) : endAD (A ++ [v]) = addW (endAD A) v.1 := by
  unfold endAD addW
  rw [if_neg (by simp)]
  by_cases h : A = []
  · subst h
    rw [if_pos rfl]
    simp only [List.nil_append, Bool.false_eq_true, if_false]
    rw [(ends_oneD v).1, (ends_oneD v).2]
  · rw [if_neg h]
    simp only [if_true]
    rw [(ends_snocD h v).1, (ends_snocD h v).2]
theorem endA_app (A B : List PairV) : endAD (A ++ B) = joinW (endAD A) (endAD B) := by
  unfold joinW
  by_cases hB : B = []
  · subst hB
    have : endAD [] = (0, 0, false) := rfl
    rw [this, List.append_nil]; rfl
  · have eB : endAD B = (loVD B, hiVD B, true) := by unfold endAD; rw [if_neg hB]
    rw [eB]
    simp only [if_true]
    by_cases hA : A = []
    · subst hA
      have : endAD [] = (0, 0, false) := rfl
      rw [this, List.nil_append, eB]; rfl
    · have eA : endAD A = (loVD A, hiVD A, true) := by unfold endAD; rw [if_neg hA]
      rw [eA]
      simp only [if_true]
      unfold endAD
      rw [if_neg (by simp [hA]), (ends_appD hA hB).1, (ends_appD hA hB).2]
end Go.Proofs.YtfmlkohijkalbaaGreat

/-
  The laws of layer 19: build.
-/
namespace Go.Proofs.YtfmlkohijkalbaaGreat
set_option linter.unusedVariables false
set_option linter.unusedSimpArgs false
open Go.RowKit

/-- Of a few values: each counted, and not too often. -/
def OneG (A : List PairV) : Prop := ∀ p, p ∈ A → 1 ≤ p.2 ∧ p.2 ≤ 150
theorem one_sum {A : List PairV} (h : OneG A) : (A.length : Int) ≤ sumP A ∧ sumP A ≤ 150 * A.length := by
  induction A with
  | nil => exact ⟨by simp [sumP_nil], by simp [sumP_nil]⟩
  | cons p r ih =>
    obtain ⟨h1, h2⟩ := ih fun q hq => h q (List.mem_cons_of_mem _ hq)
    have h3 := h p List.mem_cons_self
    rw [sumP_cons, List.length_cons, Int.natCast_add]
    omega
theorem OneG.take {A : List PairV} (h : OneG A) (k : Nat) : OneG (A.take k) := fun p hp => h p (List.mem_of_mem_take hp)
/-- What can be played. -/
structure FewG (A : List PairV) : Prop where
  one : OneG A
  len : A.length ≤ 60
  sum : sumP A ≤ 150
theorem build_facts (u v : Int) : ∀ (n : Nat) (A : List PairV), A.length = n → (∀ p, p ∈ A → okP p) → sumP A ≤ 5000 →
    OkGw (buildG u v A) ∧ (buildG u v A).2.length < 16 ∧ (lenG (buildG u v A) : Int) ≤ sumP A ∧ totG (buildG u v A) = sumP A
  | 0, A, hn, hk, hs => by
    rw [List.eq_nil_of_length_eq_zero hn, show buildG u v [] = ([], []) from rfl]
    exact ⟨⟨fun x hx => (by cases hx), fun x hx => (by cases hx), rfl, by decide, by decide, by decide⟩, by decide, by decide, by decide⟩
  | n + 1, A, hn, hk, hs => by
    have hne : A ≠ [] := fun e => by rw [e] at hn; cases hn
    have e := List.dropLast_concat_getLast hne
    obtain ⟨p, hp⟩ : ∃ p, A.getLast hne = p := ⟨_, rfl⟩
    obtain ⟨R, hR⟩ : ∃ R, A.dropLast = R := ⟨_, rfl⟩
    rw [hp, hR] at e
    subst e
    have hl : R.length = n := by rw [List.length_append] at hn; simpa using hn
    have hkp := hk p (by simp)
    have hkR : ∀ q, q ∈ R → okP q := fun q hq => hk q (by simp [hq])
    have h0 := sumP_pos (ok_pos hkR)
    obtain ⟨⟨x0, x1⟩, c0, c1⟩ := hkp
    rw [sumP_app, sumP_one] at hs ⊢
    obtain ⟨i1, i2, i3, i4⟩ := build_facts u v n R hl hkR (by omega)
    obtain ⟨c, hc⟩ : ∃ c : Nat, p.2 = c := ⟨p.2.toNat, by omega⟩
    rw [build_snoc, hc, Int.toNat_natCast]
    obtain ⟨j1, j2, j3, j4⟩ := put_ok (u := u) (v := v) i1 ⟨x0, x1⟩ i2 c (by omega) (by omega)
    exact ⟨j1, j4, by omega, by omega⟩
/-- A sketch that was built, and what it must be. -/
structure BuiltG (Gw : GwT) (w : World) (u v : Int) (A : List PairV) (B : Nat) (S : Nat → Prop) (M : Nat) (vs vw : Value) (w' : World) : Prop where
  gw : Gw w' B S u v (buildG u v A) (endAD A)
  ref : RefGw w' M u v vs vw (buildG u v A)
  sep : ∀ k, rgS M vs vw k → ¬ S k
  newS : ∀ k, S k → w.heap.size ≤ k
  newR : ∀ k, rgS M vs vw k → w.heap.size ≤ k
  below : Below w.heap.size w w'
def Build19 (Gw : GwT) (w : World) (u v : Int) (A : List PairV) (e : Ending) (w' : World) : Prop :=
  (∃ B S M vs vw, e = .returned (.tuple #[.pointer (some ⟨B, 0, none⟩), .pointer (some ⟨M, 0, none⟩), .bool true]) ∧ GoodA u v ∧ FewG A ∧ BuiltG Gw w u v A B S M vs vw w') ∨
  (e = .returned (.tuple #[.pointer none, .pointer none, .bool false]) ∧ ¬ (GoodA u v ∧ FewG A) ∧ Below w.heap.size w w')
theorem size_boxW (w : World) (o : Obj) : (w.alloc o).heap.size = w.heap.size + 1 := by unfold World.alloc; exact Array.size_push _
theorem two_boxW (w : World) (x y : Value) (t : TypeId) : (w.alloc (.cells #[x, y] t)).cell? ⟨w.heap.size, 0, none⟩ = some x ∧ (w.alloc (.cells #[x, y] t)).cell? ⟨w.heap.size, 1, none⟩ = some y := ⟨(Two.new w x y t).c0, (Two.new w x y t).c1⟩
theorem gw_new (w : World) (u v : Int) : RefGw (w.alloc (.cells #[.int .u64 u, .int .u64 v, .slice none 0 0, .slice none 0 0] 54)) w.heap.size u v (.slice none 0 0) (.slice none 0 0) ([], []) := by
  refine ⟨?_, ?_, ?_, ?_, ?_, OwnSp.nil _ _, OwnN.nil _ _, ?_, ?_, ?_⟩
  · go_simp
  · go_simp
  · go_simp
  · go_simp
  · intro o; go_simp
  · intro h; cases h
  · intro h; cases h
  · intro g h; cases h

set_option maxRecDepth 100000 in
set_option maxHeartbeats 8000000 in
theorem build19_any {Gw : GwT} (D : GwDoes Gw) (w : World) (u v : Int) (A : List PairV) (a : Option Addr) (cap : Nat) (hu : Word u) (hv : Word v) (hA : Pairs w a A) (hl : A.length ≤ 140737488351232) :
    Calls Tryz.prog 5 #[.agg #[.int .u64 u, .int .u64 v], .slice a A.length cap] w (Build19 Gw w u v A) := by
  have HD := Lib.hid D
  have HA := Lib.hid hA
  have HU := Lib.hid hu
  have HV := Lib.hid hv
  obtain ⟨u0, u1⟩ := hu
  obtain ⟨v0, v1⟩ := hv
  obtain ⟨bx0, bx1⟩ := two_boxW w (.int .u64 u) (.int .u64 v) 24
  have HX0 := Lib.hid bx0
  have HX1 := Lib.hid bx1
  have HB0 : Hid (Below w.heap.size w (w.alloc (.cells #[.int .u64 u, .int .u64 v] 24))) := Lib.hid ((Below.refl _ _).alloc (Nat.le_refl _) _)
  have HWA : Hid ((w.alloc (.cells #[.int .u64 u, .int .u64 v] 24)).heap.size = w.heap.size + 1) := Lib.hid (size_boxW _ _)
  clear hA D bx0 bx1
  go_enter Tryz.func5, Tryz.ntmps5
  go_wp2_with fail
  go_loopw [7, 17] (fun nv jv wr => ∃ (k : Nat) (n : Int), k ≤ A.length ∧ jv = .int .i64 k ∧ nv = .int .u64 n ∧ n = sumP (A.take k) ∧ OneG (A.take k) ∧ Below w.heap.size w wr ∧ w.heap.size + 1 ≤ wr.heap.size ∧ wr.cell? ⟨w.heap.size, 0, none⟩ = some (.int .u64 u) ∧ wr.cell? ⟨w.heap.size, 1, none⟩ = some (.int .u64 v)) (fun _ jv _ => A.length - (intOf jv).toNat)
  case atStart => exact ⟨0, 0, Nat.zero_le _, rfl, rfl, rfl, (fun p h => (by cases h)), HB0.out, Nat.le_of_eq HWA.out.symm, HX0.out, HX1.out⟩
  case round =>
    obtain ⟨k, n, hk, rfl, rfl, hn, hone, hb2, hsz, hc0, hc1⟩ := hrel
    have HN := Lib.hid hn
    have HO := Lib.hid hone
    have HB := Lib.hid hb2
    have HC0 := Lib.hid hc0
    have HC1 := Lib.hid hc1
    have HSZ := Lib.hid hsz
    have hbs := hb2.size
    by_cases hlt : k < A.length
    · have kk : (k : Int) < A.length := by omega
      have hxk : A[k]? = some A[k] := List.getElem?_eq_getElem hlt
      generalize hit : A[k] = p at *
      obtain ⟨px, pc⟩ := p
      obtain ⟨b, off, rfl, hbl, c0, c1⟩ := (HA.out.call hb2).at_ k _ hxk
      have HS := Lib.hid (take_snocP hxk)
      have HMEM := Lib.hid (List.mem_of_getElem? hxk)
      have hok := HA.out.ok _ (List.mem_of_getElem? hxk)
      obtain ⟨⟨o1, o2⟩, o3, o4⟩ := hok
      have hsum := one_sum hone
      rw [← hn, List.length_take] at hsum
      obtain ⟨s1, s2⟩ : 0 ≤ n ∧ n ≤ 150 * 140737488351232 := by omega
      have HAL : Hid (Below wr.heap.size wr (wr.alloc (.cells #[.int .i64 px, .int .u64 pc] 50))) := Lib.hid ((Below.refl _ _).alloc (Nat.le_refl _) _)
      have HB4 := Lib.hid (hb2.trans (HAL.out.mono hbs))
      simp only at c0 c1 o1 o2 o3 o4
      clear hxk hit hn hone hsum hb2 hc0 hc1
      by_cases z1 : pc = 0
      · have HNO : Hid (¬ OneG A) := Lib.hid fun h => by have := (h _ HMEM.out).1; simp only at this; omega
        have g1 : (pc == 0) = true := by rw [z1]; rfl
        clear z1
        go_wp2_with fail
        go_ret3
        exact Or.inr ⟨rfl, fun h => HNO.out h.2.one, HB4.out⟩
      have g1 : (pc == 0) = false := by simpa using z1
      by_cases z2 : 150 < pc
      · have HNO : Hid (¬ OneG A) := Lib.hid fun h => by have := (h _ HMEM.out).2; simp only at this; omega
        have g2 : decide (150 < pc) = true := decide_eq_true z2
        clear z1
        go_wp2_with fail
        go_ret3
        exact Or.inr ⟨rfl, fun h => HNO.out h.2.one, HB4.out⟩
      have g2 : decide (150 < pc) = false := decide_eq_false z2
      have HP1 : Hid (1 ≤ pc ∧ pc ≤ 150) := Lib.hid (by omega)
      obtain ⟨s3, s4⟩ : 0 ≤ n + pc ∧ n + pc < 18446744073709551616 := by omega
      go_wp2_with fail
      go_roundw
      case rel =>
        refine ⟨k + 1, n + pc, by omega, by go_num, rfl, by rw [HS.out, sumP_app, sumP_one, HN.out], ?_, HB4.out, Nat.le_trans HSZ.out HAL.out.size, cell_later HAL.out HC0.out, cell_later HAL.out HC1.out⟩
        rw [HS.out]
        intro p hp
        rcases List.mem_append.1 hp with h | h
        · exact HO.out p h
        · rw [List.mem_singleton.1 h]; exact HP1.out
      case measure => simp [intOf]; omega
    · obtain rfl : k = A.length := by omega
      rw [List.take_length] at HN HO
      have kk : ¬ (A.length : Int) < A.length := by omega
      have hsum := one_sum HO.out
      rw [← HN.out] at hsum
      obtain ⟨s1, s2⟩ : 0 ≤ n ∧ n ≤ 150 * 140737488351232 := by omega
      clear hn hone hsum
      by_cases q1 : 60 < A.length
      · have q1' : (60 : Int) < A.length := by omega
        clear hb2
        go_wp2_with fail
        go_ret3
        exact Or.inr ⟨rfl, fun h => by have := h.2.len; omega, HB.out⟩
      have q1' : ¬ (60 : Int) < A.length := by omega
      by_cases q2 : 150 < n
      · clear hb2
        go_wp2_with fail
        go_ret3
        exact Or.inr ⟨rfl, fun h => by have := h.2.sum; rw [← HN.out] at this; omega, HB.out⟩
      have HF : Hid (FewG A) := Lib.hid ⟨HO.out, by omega, by rw [← HN.out]; omega⟩
      have HGD := Lib.hid (good19_any wr u v HU.out HV.out)
      clear hb2
      go_wp2_with fail
      refine HGD.out.mono ?_
      rintro e w1 ⟨rfl, b1⟩
      have HB1 := Lib.hid (HB.out.trans (b1.mono hbs))
      have d0 := cell_later b1 hc0
      have d1 := cell_later b1 hc1
      have HZ1 : Hid (w.heap.size + 1 ≤ w1.heap.size) := Lib.hid (Nat.le_trans HSZ.out b1.size)
      clear hc0 hc1 HGD
      cases hg : goodG u v with
      | false =>
        have HNO : Hid (¬ GoodA u v) := Lib.hid fun h => by have := goodG_iff.2 h; rw [hg] at this; cases this
        go_wp2_with fail
        go_ret3
        exact Or.inr ⟨rfl, fun h => HNO.out h.1, HB1.out⟩
      | true =>
      have HGA := Lib.hid (goodG_iff.1 hg)
      have HNW := Lib.hid (HD.out.new w1 u v HGA.out)
      clear hg b1
      go_wp2_with fail
      refine HNW.out.mono ?_
      rintro e w2 ⟨B, S, rfl, hx, hS, b2⟩
      have HB2 := Lib.hid (HB1.out.trans (b2.mono HB1.out.size))
      have e0 := cell_later b2 d0
      have e1 := cell_later b2 d1
      have hnw : Below w2.heap.size w2 (w2.alloc (.cells #[.int .u64 u, .int .u64 v, .slice none 0 0, .slice none 0 0] 54)) := (Below.refl _ _).alloc (Nat.le_refl _) _
      have HX := Lib.hid (HD.out.call hx hnw)
      have HRG := Lib.hid (gw_new w2 u v)
      have HLS := Lib.hid (HD.out.lt _ _ _ _ _ _ _ hx)
      have HS : Hid (∀ i, S i → w.heap.size ≤ i) := Lib.hid fun i hi => by have := hS i hi; have := HZ1.out; omega
      have HB3 := Lib.hid (HB2.out.trans (hnw.mono HB2.out.size))
      have HZ2 := Lib.hid HB2.out.size
      have HWS : Hid ((w2.alloc (.cells #[.int .u64 u, .int .u64 v, .slice none 0 0, .slice none 0 0] 54)).heap.size = w2.heap.size + 1) := Lib.hid (size_boxW _ _)
      clear hx hS b2 hnw HNW d0 d1
      go_wp2_with fail
      go_loopw [56] (fun jv wr => ∃ (i : Nat) (Sk : Nat → Prop) (vs vw : Value), i ≤ A.length ∧ jv = .int .i64 i ∧ BuiltG Gw w u v (A.take i) B Sk w2.heap.size vs vw wr) (fun jv _ => A.length - (intOf jv).toNat)
      case atStart =>
        refine ⟨0, S, .slice none 0 0, .slice none 0 0, Nat.zero_le _, rfl, ⟨HX.out, HRG.out, ?_, HS.out, ?_, HB3.out⟩⟩
        · rintro k (rfl | h | h)
          · exact fun h => by have := HLS.out _ h; omega
          · cases h
          · cases h
        · rintro k (rfl | h | h)
          · exact HZ2.out
          · cases h
          · cases h
      case round =>
        obtain ⟨i, Sk, vs, vw, hi, rfl, hbt⟩ := hrel
        have HBT := Lib.hid hbt
        have hz3 := hbt.below.size
        by_cases hlt : i < A.length
        · have kl : (i : Int) < A.length := by omega
          have hxk : A[i]? = some A[i] := List.getElem?_eq_getElem hlt
          generalize hit : A[i] = p at *
          obtain ⟨px, pc⟩ := p
          obtain ⟨bb, off, rfl, hbl, c0, c1⟩ := (HA.out.call hbt.below).at_ i _ hxk
          have hok := HA.out.ok _ (List.mem_of_getElem? hxk)
          have hpc := HF.out.one _ (List.mem_of_getElem? hxk)
          have HKT := Lib.hid (take_snocP hxk)
          have HOKT : Hid (∀ p, p ∈ A.take i → okP p) := Lib.hid fun p hp => HA.out.ok p (List.mem_of_mem_take hp)
          have HSUM : Hid (sumP (A.take i) ≤ 150) := Lib.hid (by have := (sumP_take i (ok_pos HA.out.ok)).2; have := HF.out.sum; omega)
          obtain ⟨⟨o1, o2⟩, o3, o4⟩ := hok
          simp only at c0 c1 o1 o2 o3 o4 hpc
          obtain ⟨p1, p2⟩ := hpc
          obtain ⟨c, rfl⟩ : ∃ c : Nat, pc = c := ⟨pc.toNat, by omega⟩
          obtain ⟨f1, f2, f3, f4⟩ := build_facts u v _ (A.take i) rfl HOKT.out (by have := HSUM.out; omega)
          have HOK := Lib.hid f1
          have HF2 := Lib.hid f2
          have HLN : Hid (lenG (buildG u v (A.take i)) + c ≤ 5000) := Lib.hid (by have := HSUM.out; omega)
          have HTT : Hid (totG (buildG u v (A.take i)) + c ≤ 4611686018427387904) := Lib.hid (by have := HSUM.out; omega)
          have HE1 : Hid (buildG u v (A.take (i + 1)) = putG u v (buildG u v (A.take i)) px c) := Lib.hid (by rw [HKT.out, build_snoc, Int.toNat_natCast])
          have HE2 : Hid (endAD (A.take (i + 1)) = addW (endAD (A.take i)) px) := Lib.hid (by rw [HKT.out, endA_snoc])
          have HAL : Hid (Below wr.heap.size wr (wr.alloc (.cells #[.int .i64 px, .int .u64 c] 50))) := Lib.hid ((Below.refl _ _).alloc (Nat.le_refl _) _)
          have HB4 := Lib.hid (hbt.below.trans (HAL.out.mono hz3))
          have HX4 := Lib.hid (HD.out.call hbt.gw HAL.out)
          have HR4 : Hid (RefGw (wr.alloc (.cells #[.int .i64 px, .int .u64 c] 50)) w2.heap.size u v vs vw (buildG u v (A.take i))) := Lib.hid (hbt.ref.keep (Keeps.of_below (S := fun _ => False) HAL.out) fun k _ h => h)
          obtain ⟨y0, y1⟩ := two_boxW wr (.int .i64 px) (.int .u64 c) 50
          have HW4 := Lib.hid (size_boxW wr (.cells #[.int .i64 px, .int .u64 c] 50))
          have HPU := Lib.hid (HD.out.put _ B Sk u v _ _ px c HX4.out ⟨o1, o2⟩ (by omega) (by omega) HLN.out HTT.out)
          have HLR := Lib.hid hbt.ref.blocks
          have HLK := Lib.hid (HD.out.lt _ _ _ _ _ _ _ hbt.gw)
          have HI64 : Hid (I64 px) := Lib.hid ⟨o1, o2⟩
          clear hxk hit hbt f1 f2 f3 f4 e0 e1
          have HY0 := Lib.hid y0
          have HY1 := Lib.hid y1
          clear y0 y1
          go_wp2_with fail
          refine HPU.out.mono ?_
          rintro e w5 ⟨S5, rfl, hx5, hk5, hs5⟩
          have HX5 := Lib.hid hx5
          have HK5 := Lib.hid hk5
          have HS5 := Lib.hid hs5
          have HB5 : Hid (Below w.heap.size w w5) := Lib.hid (Keeps.below HB4.out hk5 HB4.out.size HBT.out.newS)
          have q0 := hk5.cell (fun h => by have := HLK.out _ h; omega) HY0.out
          have q1 := hk5.cell (fun h => by have := HLK.out _ h; omega) HY1.out
          have HR5 := Lib.hid (HR4.out.keep hk5 HBT.out.sep)
          have HRP := Lib.hid (rput19_any w5 w2.heap.size u v vs vw _ px c HR5.out HOK.out HF2.out HGA.out HI64.out (by omega) HLN.out HTT.out)
          have HL5 := Lib.hid (HD.out.lt _ _ _ _ _ _ _ hx5)
          clear hx5 hk5 hs5 HPU
          go_wp2_with fail
          refine HRP.out.mono ?_
          rintro e w7 ⟨rfl, vs', vw', hr7⟩
          have HR7 := Lib.hid hr7
          clear hr7 HRP
          go_wp2_with fail
          go_roundw
          case rel =>
            have hz4 := HW4.out
            have hz5 := HK5.out.size
            rw [hz4] at hz5
            have hsep : ∀ k, rgS w2.heap.size vs vw k → ¬ S5 k := fun k hk h => by
              rcases HS5.out k h with h | h
              · exact HBT.out.sep k hk h
              · have := HLR.out k hk; omega
            refine ⟨i + 1, S5, vs', vw', by omega, by go_num, ⟨?_, ?_, ?_, ?_, ?_, ?_⟩⟩
            · rw [HE1.out, HE2.out]; exact HD.out.past HX5.out HR7.out.keeps fun k hk h => hsep k h hk
            · rw [HE1.out]; exact HR7.out.ref
            · intro k hk h
              rcases HR7.out.blocks k hk with h1 | h1
              · exact hsep k h1 h
              · have := HL5.out k h; omega
            · intro k h
              rcases HS5.out k h with h | h
              · exact HBT.out.newS k h
              · omega
            · intro k h
              rcases HR7.out.blocks k h with h | h
              · exact HBT.out.newR k h
              · have := HB5.out.size; omega
            · exact Keeps.below HB5.out HR7.out.keeps HB5.out.size HBT.out.newR
          case measure => simp [intOf]; omega
        · obtain rfl : i = A.length := by omega
          rw [List.take_length] at HBT
          have kl : ¬ (A.length : Int) < A.length := by omega
          clear hbt
          go_wp2_with fail
          go_ret3
          exact Or.inl ⟨B, Sk, w2.heap.size, vs, vw, rfl, HGA.out, HF.out, HBT.out⟩
end Go.Proofs.YtfmlkohijkalbaaGreat

/-
  The laws of layer 19: same.
-/
namespace Go.Proofs.YtfmlkohijkalbaaGreat
set_option linter.unusedVariables false
set_option linter.unusedSimpArgs false
open Go.RowKit

set_option maxRecDepth 100000 in
set_option maxHeartbeats 8000000 in
theorem same19_any {Gw : GwT} (D : GwDoes Gw) (w : World) (B : Nat) (S : Nat → Prop) (u v : Int) (s : GwV) (e : Int × Int × Bool) (M : Nat) (vs vw : Value) (hx : Gw w B S u v s e) (h : RefGw w M u v vs vw s) (ok : OkGw s) :
    Calls Tryz.prog 8 #[.pointer (some ⟨B, 0, none⟩), .pointer (some ⟨M, 0, none⟩)] w fun e w' => e = .returned (.bool true) ∧ Below w.heap.size w w' := by
  have HR := Lib.hid h
  have HROW := Lib.hid (D.row w B S u v s e hx)
  have HTO := Lib.hid (fun W (hb : Below w.heap.size w W) => D.total W B S u v s e (D.call hx hb))
  have HTM := Lib.hid (fun W (hb : Below w.heap.size w W) => rtotal19_any W M u v vs vw s (totG s) (h.call hb) ok rfl)
  obtain ⟨A, cap, hvs, hS⟩ := h.spots.rows ok.sp
  obtain ⟨C, capw, hvw, hW⟩ := h.waits.rows ok.wt
  have HSP := Lib.hid hS
  have HWT := Lib.hid hW
  have hsl := ok.sl
  have hwl := ok.wl
  have htb := ok.tot
  have hle := ok.can.le
  obtain ⟨N, hN⟩ : ∃ N, s.1.length = N := ⟨_, rfl⟩
  obtain ⟨K, hK⟩ : ∃ K, s.2.length = K := ⟨_, rfl⟩
  obtain ⟨R, hR⟩ : ∃ R, rowT 0 s.1 = R := ⟨_, rfl⟩
  obtain ⟨T, hT⟩ : ∃ T, totG s = T := ⟨_, rfl⟩
  have hRN : R.length = N := by rw [← hR, row_len, hN]
  have hts : totS s.1 ≤ 9223372036854775807 := by unfold totG at htb; omega
  have CL := Lib.hid (fun (W : World) (Z : Option Addr) (c : Nat) (hZ : Tups W Z R) => (plain19_any W Z c R hZ (by omega)).mono (R' := fun e w' => ∃ A4 k4, e = .returned (.slice A4 N k4) ∧ Tups w' A4 R ∧ Below W.heap.size W w') fun e w' ⟨v4, he, ho, hb⟩ => by
    obtain ⟨A4, k4, rfl, h4⟩ := ho.rows hZ.ok
    rw [hRN] at he
    exact ⟨A4, k4, he, h4, hb⟩)
  have CR := Lib.hid (fun (W : World) (hRo : ∀ p, p ∈ R → okTu p) (hb : Below w.heap.size w W) => (rrow18_any W A cap s.1 _ (hS.call hb) (by omega) ok.can hts).mono (R' := fun e w' => ∃ A4 k4, e = .returned (.slice A4 N k4) ∧ Tups w' A4 R ∧ Below W.heap.size W w') fun e w' ⟨v4, he, ho, hb⟩ => by
    rw [hR] at ho
    obtain ⟨A4, k4, rfl, h4⟩ := ho.rows hRo
    rw [hRN] at he
    exact ⟨A4, k4, he, h4, hb⟩)
  have CS := Lib.hid (fun (W : World) (Z Z' : Option Addr) (c c' : Nat) (hZ : Tups W Z R) (hZ' : Tups W Z' R) => same18_any W Z Z' c c' R R true (decide_eq_true rfl) hZ hZ' (by omega) (by omega))
  have hc2 := h.c2
  have hc3 := h.c3
  rw [hvs] at hc2
  rw [hvw] at hc3
  rw [hT] at HTM HTO
  rw [hN] at CR hc2
  rw [hK] at hc3
  rw [hRN] at CL CS
  rw [hN, hR, hK] at HROW
  have HC2 := Lib.hid hc2
  have HC3 := Lib.hid hc3
  have HK : Hid (s.2.length = K) := Lib.hid hK
  have hkb : K ≤ 16 := by omega
  have f1 : ((K : Int) != (K : Int)) = false := by simp
  have f2 : (!((K : Int) == (K : Int))) = false := by simp
  have f3 : (T != T) = false := by simp
  have f4 : (!(T == T)) = false := by simp
  have f5 : ((K : Int) == (K : Int)) = true := by simp
  have f6 : (T == T) = true := by simp
  clear hx h ok hS hW hvs hvw hsl hwl htb hle hR hRN hT hN hK hts hc2 hc3 D
  go_enter Tryz.func8, Tryz.ntmps8
  go_wp2_with fail
  refine HROW.out.mono ?_
  rintro e w2 ⟨A1, k1, A2, k2, rfl, hT1, hN2, b2⟩
  have HT1 := Lib.hid hT1
  have HN2 := Lib.hid hN2
  have HB2 := Lib.hid b2
  have HS0 : Hid (w2.drew.cell? ⟨M, 2, none⟩ = some (.slice A N cap) ∧ w2.drew.cell? ⟨M, 3, none⟩ = some (.slice C K capw) ∧ Below w2.heap.size w2 w2.drew) := Lib.hid ⟨cell_later (b2.trans (((Below.refl _ _).drew).mono b2.size)) HC2.out, cell_later (b2.trans (((Below.refl _ _).drew).mono b2.size)) HC3.out, (Below.refl _ _).drew⟩
  have HST := Lib.hid (fun (W W' : World) (h : W.cell? ⟨M, 2, none⟩ = some (.slice A N cap) ∧ W.cell? ⟨M, 3, none⟩ = some (.slice C K capw) ∧ Below w2.heap.size w2 W) (hb : Below W.heap.size W W') => (⟨cell_later hb h.1, cell_later hb h.2.1, h.2.2.trans (hb.mono h.2.2.size)⟩ : W'.cell? ⟨M, 2, none⟩ = some (.slice A N cap) ∧ W'.cell? ⟨M, 3, none⟩ = some (.slice C K capw) ∧ Below w2.heap.size w2 W'))
  have HTW := Lib.hid (fun (W : World) (h : W.cell? ⟨M, 2, none⟩ = some (.slice A N cap) ∧ W.cell? ⟨M, 3, none⟩ = some (.slice C K capw) ∧ Below w2.heap.size w2 W) => HB2.out.trans (h.2.2.mono HB2.out.size))
  have HTT := Lib.hid (fun (W : World) (h : W.cell? ⟨M, 2, none⟩ = some (.slice A N cap) ∧ W.cell? ⟨M, 3, none⟩ = some (.slice C K capw) ∧ Below w2.heap.size w2 W) => HT1.out.call h.2.2)
  clear hT1 hN2 b2 HROW
  go_wp2_with fail
  go_region_held3 (fun w' => w'.cell? ⟨M, 2, none⟩ = some (.slice A N cap) ∧ w'.cell? ⟨M, 3, none⟩ = some (.slice C K capw) ∧ Below w2.heap.size w2 w')
    (first | exact HS0.out | exact HST.out _ _ (by assumption) hbA | exact HST.out _ _ (by assumption) hbB | exact HST.out _ _ (by assumption) hbC | exact HST.out _ _ (by assumption) hbD | exact HST.out _ _ (by assumption) hbE | assumption)
    ((first
      | (go_at_call 32; refine (CL.out _ A1 k1 (HTT.out _ (by assumption))).mono ?_; rintro e wA ⟨A4, k4, rfl, hP4, hbA⟩)
      | (go_at_call 33; refine (CR.out _ HT1.out.ok (HTW.out _ (by assumption))).mono ?_; rintro e wB ⟨A5, k5, rfl, hP5, hbB⟩; have hP45 := hP4.call hbB)
      | (go_at_call 31; refine (CS.out _ A4 A5 k4 k5 hP45 hP5).mono ?_; rintro e wC ⟨rfl, hbC⟩)
      | (go_at_call 13; refine (HTO.out _ (HTW.out _ (by assumption))).mono ?_; rintro e wD ⟨rfl, hbD⟩)
      | (go_at_call 34; refine (HTM.out _ (HTW.out _ (by assumption))).mono ?_; rintro e wE ⟨rfl, hbE⟩)))
  rename_i hHeld
  have HBH := Lib.hid (HTW.out _ hHeld)
  have HNH := Lib.hid (HN2.out.call hHeld.2.2)
  clear hHeld HS0 HST HTW HTT
  go_wp2_with fail
  go_loopw [41] (fun j wr => ∃ k : Nat, k ≤ K ∧ j = .int .i64 k ∧ Below w.heap.size w wr ∧ Nums wr A2 s.2) (fun j _ => K - (intOf j).toNat)
  case atStart => exact ⟨0, Nat.zero_le _, rfl, HBH.out, HNH.out⟩
  case round =>
    obtain ⟨k, hk, rfl, hb2, hn2⟩ := hrel
    have HNR := Lib.hid hn2
    have HBR := Lib.hid hb2
    by_cases hlt : k < K
    · have kk : (k : Int) < K := by omega
      have kk0 : (0 : Int) ≤ (k : Int) := by omega
      have hlt' : k < s.2.length := by rw [HK.out]; exact hlt
      have hxk : s.2[k]? = some s.2[k] := List.getElem?_eq_getElem hlt'
      obtain ⟨x, hx⟩ : ∃ x, s.2[k] = x := ⟨_, rfl⟩
      rw [hx] at hxk
      obtain ⟨b0, off, rfl, hbl, c0⟩ := hn2.at_ k _ hxk
      obtain ⟨b1, off', rfl, hbl', d0⟩ := (HWT.out.call hb2).at_ k _ hxk
      have d3 := cell_later hb2 HC3.out
      have g1 : (!(x == x)) = false := by simp
      have g2 : (x != x) = false := by simp
      have g3 : (x == x) = true := by simp
      clear hn2 hx hxk hlt'
      go_wp2_with fail
      go_quiet (fail)
      go_wp2_with fail
      go_roundw
      case rel => exact ⟨k + 1, by omega, by go_num, below_drewN HBR.out _, HNR.out.call (below_drewN (Below.refl _ _) _)⟩
      case measure => simp [intOf]; omega
    · obtain rfl : k = K := by omega
      have kk : ¬ (k : Int) < k := by omega
      clear hn2
      go_wp2_with fail
      go_ret
      exact ⟨rfl, HBR.out⟩
end Go.Proofs.YtfmlkohijkalbaaGreat

/-
  The law GreenwaldDoes, walked from the contract. (tools/gen_gw_l.py)
-/
namespace Go.Proofs.YtfmlkohijkalbaaGreat
set_option linter.unusedVariables false
set_option linter.unusedSimpArgs false
open Go.RowKit

/-- What two boxes hold. -/
abbrev BoxW (s : Nat) (x y u v : Value) (W : World) : Prop := W.cell? ⟨s, 0, none⟩ = some x ∧ W.cell? ⟨s, 1, none⟩ = some y ∧ W.cell? ⟨s + 1, 0, none⟩ = some u ∧ W.cell? ⟨s + 1, 1, none⟩ = some v
theorem boxw_later {s : Nat} {x y u v : Value} {W W' : World} (h : BoxW s x y u v W) (hb : Below W.heap.size W W') : BoxW s x y u v W' :=
  ⟨cell_later hb h.1, cell_later hb h.2.1, cell_later hb h.2.2.1, cell_later hb h.2.2.2⟩
theorem boxw_keeps {s : Nat} {x y u v : Value} {W W' : World} {S : Nat → Prop} (h : BoxW s x y u v W) (hk : Keeps S W W') (h0 : ∀ k, S k → s + 2 ≤ k) : BoxW s x y u v W' :=
  have n0 : ¬ S s := fun h => by have := h0 _ h; omega
  have n1 : ¬ S (s + 1) := fun h => by have := h0 _ h; omega
  ⟨hk.cell n0 h.1, hk.cell n0 h.2.1, hk.cell n1 h.2.2.1, hk.cell n1 h.2.2.2⟩
theorem boxw_new (w : World) (x y u v : Value) (t t' : TypeId) : BoxW w.heap.size x y u v ((w.alloc (.cells #[x, y] t)).alloc (.cells #[u, v] t')) ∧ Below w.heap.size w ((w.alloc (.cells #[x, y] t)).alloc (.cells #[u, v] t')) := by
  obtain ⟨a0, a1⟩ := two_boxW w x y t
  obtain ⟨b0, b1⟩ := two_boxW (w.alloc (.cells #[x, y] t)) u v t'
  rw [size_boxW] at b0 b1
  have hn : Below (w.alloc (.cells #[x, y] t)).heap.size (w.alloc (.cells #[x, y] t)) ((w.alloc (.cells #[x, y] t)).alloc (.cells #[u, v] t')) := (Below.refl _ _).alloc (Nat.le_refl _) _
  have h0 : Below w.heap.size w (w.alloc (.cells #[x, y] t)) := (Below.refl _ _).alloc (Nat.le_refl _) _
  exact ⟨⟨cell_later hn a0, cell_later hn a1, b0, b1⟩, h0.trans (hn.mono h0.size)⟩

end Go.Proofs.YtfmlkohijkalbaaGreat
/-
  The laws of layer 19: near. (tools/gen_gw_n.py)
-/
namespace Go.Proofs.YtfmlkohijkalbaaGreat
set_option linter.unusedVariables false
set_option linter.unusedSimpArgs false
open Go.RowKit

theorem where_whole {A : List PairV} (h : ∀ p, p ∈ A → okP p) : whereP (fun y => decide (y ≤ 9223372036854775807)) A = sumP A := by
  unfold whereP
  rw [List.filter_eq_self.2 fun p hp => decide_eq_true (by have := (h p hp).1; unfold I64 at this; omega)]
theorem where_bd {A : List PairV} (h : ∀ p, p ∈ A → 0 ≤ p.2) (f : Int → Bool) : 0 ≤ whereP f A ∧ whereP f A ≤ sumP A := ⟨where_pos h, where_sum h⟩

set_option maxRecDepth 100000 in
set_option maxHeartbeats 8000000 in
theorem near19_any (w : World) (a : Option Addr) (cap : Nat) (A : List PairV) (x t u v G : Int) (hA : Pairs w a A) (hl : A.length ≤ 1000) (hs : sumP A ≤ 4611686018427387904) (hx : I64 x) (ht : 0 ≤ t ∧ t ≤ 4611686018427387904) (hu : Word u) (hv : Word v)
    (hor : whereP (fun y => decide (y < x)) A + 1 ≤ whereP (fun y => decide (y ≤ x)) A) (h0 : 0 ≤ G) (h1 : whereP (fun y => decide (y < x)) A + 1 ≤ t + G) (h2 : t ≤ whereP (fun y => decide (y ≤ x)) A + G) (h3 : G * v ≤ u * sumP A) :
    Calls Tryz.prog 15 #[.slice a A.length cap, .int .i64 x, .int .u64 t, .agg #[.int .u64 u, .int .u64 v]] w fun e w' => e = .returned (.bool true) ∧ Below w.heap.size w w' := by
  have HA := Lib.hid hA
  have hpos := ok_pos hA.ok
  have HU1 := Lib.hid (fun W hW => rup19_any W a cap A 9223372036854775807 _ hW ⟨by decide, by decide⟩ hl (by omega) (where_whole hA.ok))
  obtain ⟨l, hlast⟩ : ∃ l, whereP (fun y => decide (y ≤ x)) A = l := ⟨_, rfl⟩
  have HU2 := Lib.hid (fun W hW => rup19_any W a cap A x l hW hx hl (by omega) hlast)
  obtain ⟨f, hf⟩ : ∃ f, whereP (fun y => decide (y < x)) A = f := ⟨_, rfl⟩
  obtain ⟨n, hn⟩ : ∃ n, sumP A = n := ⟨_, rfl⟩
  have hlb := where_bd hpos (fun y => decide (y ≤ x))
  have hfb := where_bd hpos (fun y => decide (y < x))
  have HP := Lib.hid (fun k => where_partW (L := A) (fun y => decide (y < x)) hpos k)
  have HF := Lib.hid hf
  rw [hlast, hn] at hlb
  rw [hf, hn] at hfb
  rw [hlast, hf] at hor
  rw [hf] at h1
  rw [hlast] at h2
  rw [hn] at h3 hs HU1 HP
  have HGAP := Lib.hid (fun (g : Int) (g0 : 0 ≤ g) (g1 : g < 18446744073709551616) (g2 : g ≤ G) => (⟨g0, g1, Int.le_trans (Int.mul_le_mul_of_nonneg_right g2 hv.1) h3⟩ : 0 ≤ g ∧ g < 18446744073709551616 ∧ g * v ≤ u * n))
  have HWV := Lib.hid hv
  have HWU := Lib.hid hu
  have hm1 := mul_bd (a := u) (b := n) hu ⟨by omega, by omega⟩
  have CM1 := Lib.hid (fun W => rtimes_any u n hu ⟨by omega, by omega⟩ W)
  obtain ⟨k1, hh1⟩ : ∃ v', hiW (u * n) = v' := ⟨_, rfl⟩
  obtain ⟨l1, hl1⟩ : ∃ v', loW (u * n) = v' := ⟨_, rfl⟩
  obtain ⟨bx0, bx1⟩ := two_boxW w (.int .u64 u) (.int .u64 v) 24
  have HBX := Lib.hid (And.intro bx0 bx1)
  have HB0 : Hid (Below w.heap.size w (w.alloc (.cells #[.int .u64 u, .int .u64 v] 24))) := Lib.hid ((Below.refl _ _).alloc (Nat.le_refl _) _)
  obtain ⟨t0, t1⟩ := ht
  obtain ⟨x0, x1⟩ := hx
  clear hA hpos hlast hf hn hu hv h3 bx0 bx1
  go_enter Tryz.func15, Tryz.ntmps15
  go_wp2_with fail
  refine (HU1.out _ (HA.out.call HB0.out)).mono ?_
  rintro e w1 ⟨rfl, b1⟩
  have HB1 := Lib.hid (HB0.out.trans (b1.mono HB0.out.size))
  have HBX1 := Lib.hid (And.intro (cell_later b1 HBX.out.1) (cell_later b1 HBX.out.2))
  clear b1
  go_wp2_with fail
  refine (HU2.out _ (HA.out.call HB1.out)).mono ?_
  rintro e w2 ⟨rfl, b2⟩
  have HB2 := Lib.hid (HB1.out.trans (b2.mono HB1.out.size))
  have HBX2 := Lib.hid (And.intro (cell_later b2 HBX1.out.1) (cell_later b2 HBX1.out.2))
  clear b2 HU1 HU2 HBX HBX1 HB0 HB1
  go_wp2_with fail
  go_loopw [11, 22] (fun s j wr => ∃ (k : Nat) (m : Int), k ≤ A.length ∧ j = .int .i64 k ∧ s = .int .u64 (m + 1) ∧ m = whereP (fun y => decide (y < x)) (A.take k) ∧ Below w2.heap.size w2 wr) (fun _ j _ => A.length - (intOf j).toNat)
  case atStart => exact ⟨0, 0, Nat.zero_le _, rfl, rfl, rfl, Below.refl _ _⟩
  case round =>
    obtain ⟨k, m, hk, rfl, rfl, hm, hb2⟩ := hrel
    have HM := Lib.hid hm
    have hbs := hb2.size
    by_cases hlt : k < A.length
    · have kk : (k : Int) < A.length := by omega
      have hxk : A[k]? = some A[k] := List.getElem?_eq_getElem hlt
      generalize hit : A[k] = p at *
      obtain ⟨px, pc⟩ := p
      obtain ⟨b, off, rfl, hbl, c0, c1⟩ := (HA.out.call (HB2.out.trans (hb2.mono HB2.out.size))).at_ k _ hxk
      have HS := Lib.hid (where_snocW (fun y => decide (y < x)) hxk)
      have hok := HA.out.ok _ (List.mem_of_getElem? hxk)
      have p1 := HP.out (k + 1)
      have p0 := HP.out k
      rw [HS.out] at p1
      rw [← hm] at p0 p1
      obtain ⟨⟨o1, o2⟩, o3, o4⟩ := hok
      simp only [decide_eq_true_eq] at c0 c1 o1 o2 o3 o4 p1 HS
      clear hxk hit hm
      by_cases he : px < x
      · rw [if_pos he] at p1 HS
        obtain ⟨p2, p3⟩ := p1
        obtain ⟨p4, _⟩ := p0
        have e1 : m + 1 + pc = m + pc + 1 := by omega
        go_wp2_with fail
        go_roundw
        case rel => exact ⟨k + 1, m + pc, by omega, by go_num, rfl, by rw [HS.out, HM.out], hb2.alloc hbs _⟩
        case measure => simp [intOf]; omega
      · rw [if_neg he] at p1 HS
        clear p0 p1
        go_wp2_with fail
        go_roundw
        case rel => exact ⟨k + 1, m, by omega, by go_num, rfl, by rw [HS.out, HM.out, Int.add_zero], hb2.alloc hbs _⟩
        case measure => simp [intOf]; omega
    · obtain rfl : k = A.length := by omega
      rw [List.take_length, HF.out] at hm
      subst hm
      have kk : ¬ (A.length : Int) < A.length := by omega
      have HB5 := Lib.hid (HB2.out.trans (hb2.mono HB2.out.size))
      have HBX5 := Lib.hid (And.intro (cell_later hb2 HBX2.out.1) (cell_later hb2 HBX2.out.2))
      have d1 : decide (m + 1 ≤ l) = true := decide_eq_true hor
      clear hb2 HM
      obtain ⟨w5, hw5⟩ : ∃ w5, wr = w5 := ⟨_, rfl⟩
      rw [hw5] at HB5 HBX5
      rw [hw5]
      clear hw5 hbs
      by_cases y1 : t < m + 1
      · have y2 : ¬ l < t := by omega
        have HGP : Hid (0 ≤ (m + 1 - t) ∧ (m + 1 - t) < 18446744073709551616 ∧ (m + 1 - t) * v ≤ u * n) := Lib.hid (HGAP.out (m + 1 - t) (by omega) (by omega) (by omega))
        have CM2 := Lib.hid (fun W => rtimes_any (m + 1 - t) v ⟨HGP.out.1, HGP.out.2.1⟩ HWV.out W)
        have hm2 := mul_bd (a := (m + 1 - t)) (b := v) ⟨HGP.out.1, HGP.out.2.1⟩ HWV.out
        have CL := Lib.hid (fun W => less_two (u * n) ((m + 1 - t) * v) hm1.1 hm1.2 hm2.1 hm2.2 W)
        have hdl : decide (u * n < (m + 1 - t) * v) = false := decide_eq_false (Int.not_lt.2 HGP.out.2.2)
        rw [hdl] at CL
        obtain ⟨k2, hh2⟩ : ∃ v', hiW ((m + 1 - t) * v) = v' := ⟨_, rfl⟩
        obtain ⟨l2, hl2⟩ : ∃ v', loW ((m + 1 - t) * v) = v' := ⟨_, rfl⟩
        rw [hh2, hl2] at CM2 CL
        rw [hh1, hl1] at CM1 CL
        clear hh2 hl2 hdl hm1 hm2 HGAP HGP hh1 hl1
        have HS0 : Hid (w5.drew.cell? ⟨w.heap.size, 0, none⟩ = some (.int .u64 u) ∧ w5.drew.cell? ⟨w.heap.size, 1, none⟩ = some (.int .u64 v) ∧ Below w5.heap.size w5 w5.drew) := Lib.hid ⟨cell_later ((Below.refl _ _).drew) HBX5.out.1, cell_later ((Below.refl _ _).drew) HBX5.out.2, (Below.refl _ _).drew⟩
        have HST := Lib.hid (fun (W W' : World) (h : W.cell? ⟨w.heap.size, 0, none⟩ = some (.int .u64 u) ∧ W.cell? ⟨w.heap.size, 1, none⟩ = some (.int .u64 v) ∧ Below w5.heap.size w5 W) (hb : Below W.heap.size W W') => (⟨cell_later hb h.1, cell_later hb h.2.1, h.2.2.trans (hb.mono h.2.2.size)⟩ : W'.cell? ⟨w.heap.size, 0, none⟩ = some (.int .u64 u) ∧ W'.cell? ⟨w.heap.size, 1, none⟩ = some (.int .u64 v) ∧ Below w5.heap.size w5 W'))
        go_wp2_with fail
        go_region_held3 (fun w' => w'.cell? ⟨w.heap.size, 0, none⟩ = some (.int .u64 u) ∧ w'.cell? ⟨w.heap.size, 1, none⟩ = some (.int .u64 v) ∧ Below w5.heap.size w5 w')
          (first | exact HS0.out | exact HST.out _ _ (by assumption) hbA | exact HST.out _ _ (by assumption) hbB | exact HST.out _ _ (by assumption) hbC | assumption)
          ((first
            | (go_at_call 43; with_reducible refine (CM1.out _).mono ?_; rintro e wA ⟨rfl, hbA⟩)
            | (go_at_call 43; with_reducible refine (CM2.out _).mono ?_; rintro e wB ⟨rfl, hbB⟩)
            | (go_at_call 42; with_reducible refine (CL.out _).mono ?_; rintro e wC ⟨rfl, hbC⟩)))
        rename_i hHeld
        have HB9 := Lib.hid (HB5.out.trans (hHeld.2.2.mono HB5.out.size))
        clear hHeld HS0 HST
        go_wp2_with fail
        go_ret
        exact ⟨rfl, HB9.out⟩
      by_cases y2 : l < t
      · skip
        have HGP : Hid (0 ≤ (t - l) ∧ (t - l) < 18446744073709551616 ∧ (t - l) * v ≤ u * n) := Lib.hid (HGAP.out (t - l) (by omega) (by omega) (by omega))
        have CM2 := Lib.hid (fun W => rtimes_any (t - l) v ⟨HGP.out.1, HGP.out.2.1⟩ HWV.out W)
        have hm2 := mul_bd (a := (t - l)) (b := v) ⟨HGP.out.1, HGP.out.2.1⟩ HWV.out
        have CL := Lib.hid (fun W => less_two (u * n) ((t - l) * v) hm1.1 hm1.2 hm2.1 hm2.2 W)
        have hdl : decide (u * n < (t - l) * v) = false := decide_eq_false (Int.not_lt.2 HGP.out.2.2)
        rw [hdl] at CL
        obtain ⟨k2, hh2⟩ : ∃ v', hiW ((t - l) * v) = v' := ⟨_, rfl⟩
        obtain ⟨l2, hl2⟩ : ∃ v', loW ((t - l) * v) = v' := ⟨_, rfl⟩
        rw [hh2, hl2] at CM2 CL
        rw [hh1, hl1] at CM1 CL
        clear hh2 hl2 hdl hm1 hm2 HGAP HGP hh1 hl1
        have HS0 : Hid (w5.drew.cell? ⟨w.heap.size, 0, none⟩ = some (.int .u64 u) ∧ w5.drew.cell? ⟨w.heap.size, 1, none⟩ = some (.int .u64 v) ∧ Below w5.heap.size w5 w5.drew) := Lib.hid ⟨cell_later ((Below.refl _ _).drew) HBX5.out.1, cell_later ((Below.refl _ _).drew) HBX5.out.2, (Below.refl _ _).drew⟩
        have HST := Lib.hid (fun (W W' : World) (h : W.cell? ⟨w.heap.size, 0, none⟩ = some (.int .u64 u) ∧ W.cell? ⟨w.heap.size, 1, none⟩ = some (.int .u64 v) ∧ Below w5.heap.size w5 W) (hb : Below W.heap.size W W') => (⟨cell_later hb h.1, cell_later hb h.2.1, h.2.2.trans (hb.mono h.2.2.size)⟩ : W'.cell? ⟨w.heap.size, 0, none⟩ = some (.int .u64 u) ∧ W'.cell? ⟨w.heap.size, 1, none⟩ = some (.int .u64 v) ∧ Below w5.heap.size w5 W'))
        go_wp2_with fail
        go_region_held3 (fun w' => w'.cell? ⟨w.heap.size, 0, none⟩ = some (.int .u64 u) ∧ w'.cell? ⟨w.heap.size, 1, none⟩ = some (.int .u64 v) ∧ Below w5.heap.size w5 w')
          (first | exact HS0.out | exact HST.out _ _ (by assumption) hbA | exact HST.out _ _ (by assumption) hbB | exact HST.out _ _ (by assumption) hbC | assumption)
          ((first
            | (go_at_call 43; with_reducible refine (CM1.out _).mono ?_; rintro e wA ⟨rfl, hbA⟩)
            | (go_at_call 43; with_reducible refine (CM2.out _).mono ?_; rintro e wB ⟨rfl, hbB⟩)
            | (go_at_call 42; with_reducible refine (CL.out _).mono ?_; rintro e wC ⟨rfl, hbC⟩)))
        rename_i hHeld
        have HB9 := Lib.hid (HB5.out.trans (hHeld.2.2.mono HB5.out.size))
        clear hHeld HS0 HST
        go_wp2_with fail
        go_ret
        exact ⟨rfl, HB9.out⟩
      have HGP0 : Hid ((0 : Int) ≤ 0) := Lib.hid (Int.le_refl _)
      have HGP : Hid (0 ≤ ((0 : Int)) ∧ ((0 : Int)) < 18446744073709551616 ∧ ((0 : Int)) * v ≤ u * n) := Lib.hid (HGAP.out ((0 : Int)) (by omega) (by omega) (by omega))
      have CM2 := Lib.hid (fun W => rtimes_any ((0 : Int)) v ⟨HGP.out.1, HGP.out.2.1⟩ HWV.out W)
      have hm2 := mul_bd (a := ((0 : Int))) (b := v) ⟨HGP.out.1, HGP.out.2.1⟩ HWV.out
      have CL := Lib.hid (fun W => less_two (u * n) (((0 : Int)) * v) hm1.1 hm1.2 hm2.1 hm2.2 W)
      have hdl : decide (u * n < ((0 : Int)) * v) = false := decide_eq_false (Int.not_lt.2 HGP.out.2.2)
      rw [hdl] at CL
      obtain ⟨k2, hh2⟩ : ∃ v', hiW (((0 : Int)) * v) = v' := ⟨_, rfl⟩
      obtain ⟨l2, hl2⟩ : ∃ v', loW (((0 : Int)) * v) = v' := ⟨_, rfl⟩
      rw [hh2, hl2] at CM2 CL
      rw [hh1, hl1] at CM1 CL
      clear hh2 hl2 hdl hm1 hm2 HGAP HGP hh1 hl1
      have HS0 : Hid (w5.drew.cell? ⟨w.heap.size, 0, none⟩ = some (.int .u64 u) ∧ w5.drew.cell? ⟨w.heap.size, 1, none⟩ = some (.int .u64 v) ∧ Below w5.heap.size w5 w5.drew) := Lib.hid ⟨cell_later ((Below.refl _ _).drew) HBX5.out.1, cell_later ((Below.refl _ _).drew) HBX5.out.2, (Below.refl _ _).drew⟩
      have HST := Lib.hid (fun (W W' : World) (h : W.cell? ⟨w.heap.size, 0, none⟩ = some (.int .u64 u) ∧ W.cell? ⟨w.heap.size, 1, none⟩ = some (.int .u64 v) ∧ Below w5.heap.size w5 W) (hb : Below W.heap.size W W') => (⟨cell_later hb h.1, cell_later hb h.2.1, h.2.2.trans (hb.mono h.2.2.size)⟩ : W'.cell? ⟨w.heap.size, 0, none⟩ = some (.int .u64 u) ∧ W'.cell? ⟨w.heap.size, 1, none⟩ = some (.int .u64 v) ∧ Below w5.heap.size w5 W'))
      go_wp2_with fail
      go_region_held3 (fun w' => w'.cell? ⟨w.heap.size, 0, none⟩ = some (.int .u64 u) ∧ w'.cell? ⟨w.heap.size, 1, none⟩ = some (.int .u64 v) ∧ Below w5.heap.size w5 w')
        (first | exact HS0.out | exact HST.out _ _ (by assumption) hbA | exact HST.out _ _ (by assumption) hbB | exact HST.out _ _ (by assumption) hbC | assumption)
        ((first
          | (go_at_call 43; with_reducible refine (CM1.out _).mono ?_; rintro e wA ⟨rfl, hbA⟩)
          | (go_at_call 43; with_reducible refine (CM2.out _).mono ?_; rintro e wB ⟨rfl, hbB⟩)
          | (go_at_call 42; with_reducible refine (CL.out _).mono ?_; rintro e wC ⟨rfl, hbC⟩)))
      rename_i hHeld
      have HB9 := Lib.hid (HB5.out.trans (hHeld.2.2.mono HB5.out.size))
      clear hHeld HS0 HST
      go_wp2_with fail
      go_ret
      exact ⟨rfl, HB9.out⟩
end Go.Proofs.YtfmlkohijkalbaaGreat

/-
  The law GreenwaldClose, walked from the contract.
-/
namespace Go.Proofs.YtfmlkohijkalbaaGreat
set_option linter.unusedVariables false
set_option linter.unusedSimpArgs false
open Go.RowKit

theorem flush_none {u v : Int} {s : GwV} (h : s.2 = []) : flushG u v s = s := by unfold flushG; rw [if_pos h]
/-- What Quantile answers is close to the place. -/
theorem near_place {u v : Int} {V : List Int} {s : GwV} (ha : GoodA u v) (h : GwOk u v V s) {t : Int} (t1 : 1 ≤ t) (t2 : t ≤ V.length) :
    (∃ p, p ∈ (flushG u v s).1 ∧ p.x = nearX t (flushG u v s).1) ∧ unV V (nearX t (flushG u v s).1) + 1 ≤ upV V (nearX t (flushG u v s).1) ∧
    ∃ G, 0 ≤ G ∧ unV V (nearX t (flushG u v s).1) + 1 ≤ t + G ∧ t ≤ upV V (nearX t (flushG u v s).1) + G ∧ G * v ≤ u * V.length := by
  obtain ⟨h1, h2, h3⟩ := h.flush (by have := ha.u1; omega) ha.v0
  obtain ⟨c, c1, c2, c3, c4, c5⟩ := close_told h3 h1.tight t1 t2
  have e : nearX t (flushG u v s).1 = c.x := by unfold nearX; rw [c1]
  have hl : 1 ≤ limG u v (totS (flushG u v s).1) := by unfold limG; omega
  rw [e]
  refine ⟨⟨c, c2, rfl⟩, c5, limG u v (totS (flushG u v s).1) / 2, by omega, c3, c4, ?_⟩
  rw [← tot_told h3]
  exact half_close (by have := ha.u1; omega) ha.v0 (by rw [tot_told h3]; omega) (by omega) (Int.le_refl _)

end Go.Proofs.YtfmlkohijkalbaaGreat
/-
  The reference of layer 19: what Join needs: bounds of what is joined, a sketch's copy in memory.
-/
namespace Go.Proofs.YtfmlkohijkalbaaGreat
set_option linter.unusedVariables false
set_option linter.unusedSimpArgs false
open Go.RowKit

/-- What is joined: its bounds. -/
theorem join_okG {u v : Int} {s t : GwV} (hs : OkGw s) (ht : OkGw t) (hl : lenG s + lenG t ≤ 5000) (hn : totG s + totG t ≤ 4611686018427387904) :
    OkGw (joinG u v s t) ∧ totG (joinG u v s t) = totG s + totG t ∧ lenG (joinG u v s t) ≤ lenG s + lenG t ∧ (joinG u v s t).2 = [] := by
  obtain ⟨s1, s2, s3, s4⟩ := flush_ok (u := u) (v := v) hs
  obtain ⟨t1, t2, t3, t4⟩ := flush_ok (u := u) (v := v) ht
  obtain ⟨S, hS⟩ : ∃ S, flushG u v s = S := ⟨_, rfl⟩
  obtain ⟨T, hT⟩ : ∃ T, flushG u v t = T := ⟨_, rfl⟩
  have e : joinG u v s t = (sqzS (limG u v (totS S.1 + totS T.1)) (mergeS S.1 T.1), []) := by unfold joinG; rw [hS, hT]
  rw [hS] at s1 s2 s3 s4
  rw [hT] at t1 t2 t3 t4
  have es : totG S = totS S.1 := by unfold totG; rw [s4]; simp
  have et : totG T = totS T.1 := by unfold totG; rw [t4]; simp
  have ls : lenG S = S.1.length := by unfold lenG; rw [s4]; simp
  have lt : lenG T = T.1.length := by unfold lenG; rw [t4]; simp
  have hm := SpotsP.merge s1.can t1.can
  have hq := hm.sqz (lim := limG u v (totS S.1 + totS T.1))
  have hsub := sqzS_sub (limG u v (totS S.1 + totS T.1)) (mergeS S.1 T.1)
  have hle := hsub.length_le
  rw [merge_len] at hle
  have hx := merge_x (P := I64) (fun q hq => (s1.sp q hq).1) (fun q hq => (t1.sp q hq).1)
  have hsp := okS_of hq (by omega) (fun q hq' => hx q (hsub.subset hq'))
  have eq := tot_can hq
  rw [e]
  generalize sqzS (limG u v (totS S.1 + totS T.1)) (mergeS S.1 T.1) = Q at *
  have tj : totG (Q, ([] : List Int)) = totG s + totG t := by
    show totS Q + (([] : List Int).length : Int) = _
    rw [eq, ← es, ← et, s2, t2]; simp
  have lj : lenG (Q, ([] : List Int)) ≤ lenG s + lenG t := by
    show Q.length + ([] : List Int).length ≤ _
    simp only [List.length_nil, Nat.add_zero]
    omega
  refine ⟨⟨hsp, fun x hx => (by cases hx), by rw [eq]; exact hq, ?_, by show ([] : List Int).length ≤ 16; decide, by rw [tj]; exact hn⟩, tj, lj, rfl⟩
  have : lenG (Q, ([] : List Int)) ≤ 5000 := by omega
  exact this

/-- A sketch's copy. -/
theorem RefGw.copy {w : World} {M : Nat} {u v : Int} {vs vw : Value} {s : GwV} (h : RefGw w M u v vs vw s) : RefGw (w.alloc (.cells #[.int .u64 u, .int .u64 v, vs, vw] 54)) w.heap.size u v vs vw s := by
  have hb : Below w.heap.size w (w.alloc (.cells #[.int .u64 u, .int .u64 v, vs, vw] 54)) := (Below.refl _ _).alloc (Nat.le_refl _) _
  refine ⟨?_, ?_, ?_, ?_, ?_, h.spots.call hb, h.waits.call hb, ?_, ?_, h.ap⟩
  · go_simp
  · go_simp
  · go_simp
  · go_simp
  · intro o; go_simp
  · intro e; have := (h.spots.lt _ e).2; omega
  · intro e; have := (h.waits.lt _ e).2; omega
end Go.Proofs.YtfmlkohijkalbaaGreat

/-
  The reference of layer 19: Join.
-/
namespace Go.Proofs.YtfmlkohijkalbaaGreat
set_option linter.unusedVariables false
set_option linter.unusedSimpArgs false
open Go.RowKit

/-- Behind Join. -/
def JoinedR (w : World) (M : Nat) (u v : Int) (vw : Value) (s : GwV) (w' : World) : Prop :=
  ∃ vs' vw', RefGw w' M u v vs' vw' s ∧ w.grownBy w' (some M) ∧ (∀ g, vs'.ownBlock = some g → w.heap.size ≤ g) ∧ (vw' = vw ∨ vw' = .slice none 0 0)

set_option maxRecDepth 100000 in
set_option maxHeartbeats 16000000 in
theorem rjoin19_any (w : World) (M N : Nat) (u v : Int) (vs vw vt vz : Value) (s t : GwV) (h : RefGw w M u v vs vw s) (k : RefGw w N u v vt vz t) (hap : ∀ g, rgS N vt vz g → ¬ rgS M vs vw g) (oks : OkGw s) (okt : OkGw t) (ha : GoodA u v) (hn : totG s + totG t ≤ 4611686018427387904) :
    Calls Tryz.prog 7 #[.pointer (some ⟨M, 0, none⟩), .pointer (some ⟨N, 0, none⟩)] w fun e w' => e = .returned (.tuple #[]) ∧ JoinedR w M u v vw (joinG u v s t) w' := by
  have HM := Lib.hid h
  have HN := Lib.hid k
  have HAP := Lib.hid hap
  have HS := Lib.hid oks
  have HT := Lib.hid okt
  have HGA := Lib.hid ha
  have c0 := k.c0
  have c1 := k.c1
  have c2 := k.c2
  have c3 := k.c3
  have HCP := Lib.hid k.copy
  have HB1 : Hid (Below w.heap.size w (w.alloc (.cells #[.int .u64 u, .int .u64 v, vt, vz] 54))) := Lib.hid ((Below.refl _ _).alloc (Nat.le_refl _) _)
  have HFT := Lib.hid (fun W (hW : RefGw W w.heap.size u v vt vz t) => rflush19_any W w.heap.size u v vt vz t hW okt ha)
  have HFS := Lib.hid (fun W (hW : RefGw W M u v vs vw s) => rflush19_any W M u v vs vw s hW oks ha)
  obtain ⟨AZ, kz, hz⟩ := k.waits.form
  obtain ⟨AT, kt, ht⟩ := k.spots.form
  obtain ⟨lz, hlz⟩ : ∃ l, t.2.length = l := ⟨_, rfl⟩
  obtain ⟨lt, hlt⟩ : ∃ l, t.1.length = l := ⟨_, rfl⟩
  rw [hlz] at hz
  rw [hlt] at ht
  subst hz ht
  clear h k hap oks okt ha hlz hlt
  go_enter Tryz.func7, Tryz.ntmps7
  go_wp2_with fail
  go_region
  obtain ⟨w1, hw1⟩ : ∃ w1, (w.alloc (.cells #[.int .u64 u, .int .u64 v, .slice AT lt kt, .slice AZ lz kz] 54)).drew = w1 := ⟨_, rfl⟩
  have hd : Below (w.alloc (.cells #[.int .u64 u, .int .u64 v, .slice AT lt kt, .slice AZ lz kz] 54)).heap.size (w.alloc (.cells #[.int .u64 u, .int .u64 v, .slice AT lt kt, .slice AZ lz kz] 54)) w1 := by rw [← hw1]; exact (Below.refl _ _).drew
  have HC1 := Lib.hid (HCP.out.call hd)
  have HBW := Lib.hid (HB1.out.trans (hd.mono HB1.out.size))
  have HM1 := Lib.hid (HM.out.call HBW.out)
  have HZW := Lib.hid (World.block_lt_of_cell? (a := ⟨w.heap.size, 0, none⟩) w1 HC1.out.c0)
  clear hd HCP HB1
  go_wp2_with fail
  refine (HFT.out w1 HC1.out).mono ?_
  rintro e w2 ⟨rfl, vt1, vz1, hc2, hg2, hv2, hz2⟩
  have HC2 := Lib.hid hc2
  have HG2 := Lib.hid hg2
  have hMlt := HM.out.lt
  have HM2 := Lib.hid (HM1.out.keep (keeps_grown (S := fun x => x = w.heap.size) hg2 rfl) (fun k hk e => by have := HM.out.blocks k hk; omega))
  have HTM : Hid (vt1.ownBlock ≠ some M) := Lib.hid fun e => by
    rcases hv2 with h | h
    · rw [h] at e; exact HAP.out M (Or.inr (Or.inl e)) (Or.inl rfl)
    · have := h M e; have := HBW.out.size; omega
  have HZM : Hid (vz1.ownBlock ≠ some M) := Lib.hid fun e => by
    rcases hz2 with h | h
    · rw [h] at e; exact HAP.out M (Or.inr (Or.inr e)) (Or.inl rfl)
    · rw [h] at e; cases e
  clear hc2 hg2 hv2 hz2 c0 c1 c2 c3
  go_wp2_with fail
  refine (HFS.out w2 HM2.out).mono ?_
  rintro e w3 ⟨rfl, vs1, vw1, hm3, hg3, hv3, hz3⟩
  have HZ3 := Lib.hid hz3
  have HM3 := Lib.hid hm3
  have HG3 := Lib.hid hg3
  have HSZ3 : Hid (w.heap.size ≤ w3.heap.size) := Lib.hid (by have := HBW.out.size; have := HG2.out.size; have := hg3.size; omega)
  have HGF := Lib.hid (fun (W : World) (h : w3.grownBy W (some M)) => grown_transG (w1 := w3) (⟨hg3.os.trans (HG2.out.os.trans HBW.out.os), hg3.tape.trans (HG2.out.tape.trans HBW.out.tape), hg3.output.trans (HG2.out.output.trans HBW.out.output), HSZ3.out, fun k hk hr => by
    have h1 := HBW.out.size
    have h2 := HG2.out.size
    exact (hg3.block k (by omega) hr).trans ((HG2.out.block k (by omega) (fun e => by have := Option.some.inj e; omega)).trans (HBW.out.block k hk))⟩ : w.grownBy w3 (some M)) h)
  have HC3 := Lib.hid (HC2.out.keep (keeps_grown (S := fun x => x = M) hg3 rfl) (fun k hk e => by
    subst e
    rcases hk with h | h | h
    · omega
    · exact HTM.out h
    · exact HZM.out h))
  obtain ⟨f1, f2, f3, f4⟩ := flush_ok (u := u) (v := v) HS.out
  obtain ⟨g1, g2, g3, g4⟩ := flush_ok (u := u) (v := v) HT.out
  obtain ⟨s1, hs1⟩ : ∃ x, flushG u v s = x := ⟨_, rfl⟩
  obtain ⟨t1, ht1⟩ : ∃ x, flushG u v t = x := ⟨_, rfl⟩
  have HJ : Hid (joinG u v s t = (sqzS (limG u v (totS s1.1 + totS t1.1)) (mergeS s1.1 t1.1), [])) := Lib.hid (by unfold joinG; rw [hs1, ht1])
  rw [hs1] at f1 f2 f3 f4 HM3
  rw [ht1] at g1 g2 g3 g4 HC3
  have HE2 : Hid (s1.2 = []) := Lib.hid f4
  obtain ⟨A1, k1, hvs⟩ := HM3.out.spots.form
  obtain ⟨A2, k2, hvt⟩ := HC3.out.spots.form
  obtain ⟨l1, hl1⟩ : ∃ l, s1.1.length = l := ⟨_, rfl⟩
  obtain ⟨l2, hl2⟩ : ∃ l, t1.1.length = l := ⟨_, rfl⟩
  rw [hl1] at hvs
  rw [hl2] at hvt
  subst hvs hvt
  obtain ⟨n1, hn1⟩ : ∃ n, totS s1.1 = n := ⟨_, rfl⟩
  obtain ⟨n2, hn2⟩ : ∃ n, totS t1.1 = n := ⟨_, rfl⟩
  have HSP := Lib.hid (fun (W : World) (h : W.cell? ⟨M, 0, none⟩ = some (.int .u64 u) ∧ W.cell? ⟨M, 1, none⟩ = some (.int .u64 v) ∧ W.cell? ⟨w.heap.size, 2, none⟩ = some (.slice A2 l2 k2) ∧ w3.grownBy W (some M)) => (HM3.out.spots.other h.2.2.2 (Or.inr HM3.out.ns)).row f1.sp)
  have HTP := Lib.hid (fun (W : World) (h : W.cell? ⟨M, 0, none⟩ = some (.int .u64 u) ∧ W.cell? ⟨M, 1, none⟩ = some (.int .u64 v) ∧ W.cell? ⟨w.heap.size, 2, none⟩ = some (.slice A2 l2 k2) ∧ w3.grownBy W (some M)) => (HC3.out.spots.other h.2.2.2 (Or.inr HTM.out)).row g1.sp)
  have e1 : totG s1 = n1 := by unfold totG; rw [f4, hn1]; simp
  have e2 : totG t1 = n2 := by unfold totG; rw [g4, hn2]; simp
  have hc1 := f1.can
  have hc2 := g1.can
  have hn10 := hc1.le
  have hn20 := hc2.le
  have hsl := f1.sl
  have htl := g1.sl
  have hx1 : ∀ q, q ∈ s1.1 → I64 q.x := fun q hq => (f1.sp q hq).1
  have hx2 : ∀ q, q ∈ t1.1 → I64 q.x := fun q hq => (g1.sp q hq).1
  have hmx := merge_x (P := I64) hx1 hx2
  rw [hn1] at hc1 hn10
  rw [hn2] at hc2 hn20
  have hmc := SpotsP.merge hc1 hc2
  have hml := merge_len s1.1 t1.1
  have hmo := okS_of hmc (by omega) hmx
  have CMG := Lib.hid (fun (W : World) (h : W.cell? ⟨M, 0, none⟩ = some (.int .u64 u) ∧ W.cell? ⟨M, 1, none⟩ = some (.int .u64 v) ∧ W.cell? ⟨w.heap.size, 2, none⟩ = some (.slice A2 l2 k2) ∧ w3.grownBy W (some M)) => rmerge18_any W A1 A2 k1 k2 s1.1 t1.1 n1 n2 (HSP.out W h) (HTP.out W h) (by omega) (by omega) hc1 hc2 (by omega) (by omega))
  have CT1 := Lib.hid (fun (W : World) (h : W.cell? ⟨M, 0, none⟩ = some (.int .u64 u) ∧ W.cell? ⟨M, 1, none⟩ = some (.int .u64 v) ∧ W.cell? ⟨w.heap.size, 2, none⟩ = some (.slice A2 l2 k2) ∧ w3.grownBy W (some M)) => (rtot18_any W A1 k1 s1.1 n1 (HSP.out W h) (by omega) hn1).mono (R' := fun e w' => e = .returned (.int .u64 n1) ∧ Below W.heap.size W w') fun e w' ⟨he, hw⟩ => ⟨he, by rw [hw]; exact Below.refl _ _⟩)
  have CT2 := Lib.hid (fun (W : World) (h : W.cell? ⟨M, 0, none⟩ = some (.int .u64 u) ∧ W.cell? ⟨M, 1, none⟩ = some (.int .u64 v) ∧ W.cell? ⟨w.heap.size, 2, none⟩ = some (.slice A2 l2 k2) ∧ w3.grownBy W (some M)) => (rtot18_any W A2 k2 t1.1 n2 (HTP.out W h) (by omega) hn2).mono (R' := fun e w' => e = .returned (.int .u64 n2) ∧ Below W.heap.size W w') fun e w' ⟨he, hw⟩ => ⟨he, by rw [hw]; exact Below.refl _ _⟩)
  have htw : Word (n1 + n2) := by unfold Word; omega
  have hlw := HGA.out.limw htw.1 htw.2
  have CL := Lib.hid (fun W => rlimit19_any W u v (n1 + n2) HGA.out htw)
  rw [hn1, hn2] at HJ
  obtain ⟨lm, hlm⟩ : ∃ m, limG u v (n1 + n2) = m := ⟨_, rfl⟩
  rw [hlm] at CL hlw HJ
  have CS := Lib.hid (fun (W : World) (base : Nat) (vm : Value) (hW : OwnSp W base vm (mergeS s1.1 t1.1)) => rsqz18_own W base vm _ _ lm hW hmo (by omega) hmc (by omega) ⟨by omega, hlw.2⟩)
  rw [hl1, hl2] at CMG
  rw [hl1] at CT1
  rw [hl2] at CT2
  have u2 : IntKind.u64.wrap (n1 + n2) = n1 + n2 := by rw [IntKind.wrap_u64]; unfold Word at htw; omega
  have HS0 : Hid (w3.drew.cell? ⟨M, 0, none⟩ = some (.int .u64 u) ∧ w3.drew.cell? ⟨M, 1, none⟩ = some (.int .u64 v) ∧ w3.drew.cell? ⟨w.heap.size, 2, none⟩ = some (.slice A2 l2 k2) ∧ w3.grownBy w3.drew (some M)) := Lib.hid ⟨by have := HM3.out.call (Below.refl w3.heap.size w3).drew; exact this.c0, by have := HM3.out.call (Below.refl w3.heap.size w3).drew; exact this.c1, by have := HC3.out.call (Below.refl w3.heap.size w3).drew; exact this.c2, grown_callG (World.grownBy.refl _ _) (Below.refl _ _).drew⟩
  have HST := Lib.hid (fun (W W' : World) (h : W.cell? ⟨M, 0, none⟩ = some (.int .u64 u) ∧ W.cell? ⟨M, 1, none⟩ = some (.int .u64 v) ∧ W.cell? ⟨w.heap.size, 2, none⟩ = some (.slice A2 l2 k2) ∧ w3.grownBy W (some M)) (hb : Below W.heap.size W W') => (⟨cell_later hb h.1, cell_later hb h.2.1, cell_later hb h.2.2.1, grown_callG h.2.2.2 hb⟩ : W'.cell? ⟨M, 0, none⟩ = some (.int .u64 u) ∧ W'.cell? ⟨M, 1, none⟩ = some (.int .u64 v) ∧ W'.cell? ⟨w.heap.size, 2, none⟩ = some (.slice A2 l2 k2) ∧ w3.grownBy W' (some M)))
  have HSV := Lib.hid (fun (W : World) (x : Value) (h : W.cell? ⟨M, 0, none⟩ = some (.int .u64 u) ∧ W.cell? ⟨M, 1, none⟩ = some (.int .u64 v) ∧ W.cell? ⟨w.heap.size, 2, none⟩ = some (.slice A2 l2 k2) ∧ w3.grownBy W (some M)) => (⟨by rw [World.cell?_setCell_other _ _ _ _ (two_off (by omega))]; exact h.1, by rw [World.cell?_setCell_other _ _ _ _ (two_off (by omega))]; exact h.2.1, by rw [World.cell?_setCell_other _ _ _ _ (fun e => by have := (Addr.mk.inj e).1; omega)]; exact h.2.2.1, grown_transG h.2.2.2 (grown_putG _ _ _ _)⟩ : (W.setCell ⟨M, 2, none⟩ x).cell? ⟨M, 0, none⟩ = some (.int .u64 u) ∧ (W.setCell ⟨M, 2, none⟩ x).cell? ⟨M, 1, none⟩ = some (.int .u64 v) ∧ (W.setCell ⟨M, 2, none⟩ x).cell? ⟨w.heap.size, 2, none⟩ = some (.slice A2 l2 k2) ∧ w3.grownBy (W.setCell ⟨M, 2, none⟩ x) (some M)))
  have q2 := HM3.out.c2
  clear f1 f2 f3 f4 g1 g2 g3 g4 hs1 ht1 hl1 hl2 hn1 hn2 e1 e2 hc1 hc2 hn10 hn20 hsl htl hx1 hx2 hmx hmc hml hmo htw hlw hlm hn hm3 hg3 hv3 hz3 HFT HFS
  go_wp2_with fail
  -- the region by hand
  refine wp_region_noPanic ?_
  refine wp_region_held_drew (S := (fun W => W.cell? ⟨M, 0, none⟩ = some (.int .u64 u) ∧ W.cell? ⟨M, 1, none⟩ = some (.int .u64 v) ∧ W.cell? ⟨w.heap.size, 2, none⟩ = some (.slice A2 l2 k2) ∧ w3.grownBy W (some M))) (by kernel_rfl) (HS0.out) (fun hHeld => ?_)
  refine wpAnyH_take (i := 0) (oi := _) (v := ?v1) (by simp only [List.getElem?_toArray, List.getElem?_cons_succ, List.getElem?_cons_zero]; rfl) (by kernel_rfl) (by kernel_rfl) (by kernel_rfl) (fun _ _ _ h => h) (Or.inl ⟨by rfl, ?y1⟩) hHeld ?r1
  case y1 => (intro w hSw; (try dsimp only at hSw); go_simp; try with_reducible rfl)
  try simp only [Act.put, List.setIfInBounds_toArray, List.set_cons_zero, List.set_cons_succ]
  refine wpAnyH_take (i := 1) (oi := _) (v := ?v2) (by simp only [List.getElem?_toArray, List.getElem?_cons_succ, List.getElem?_cons_zero]; rfl) (by kernel_rfl) (by kernel_rfl) (by kernel_rfl) (fun _ _ _ h => h) (Or.inl ⟨by rfl, ?y2⟩) hHeld ?r2
  case y2 => (intro w hSw; (try dsimp only at hSw); go_simp; try with_reducible rfl)
  try simp only [Act.put, List.setIfInBounds_toArray, List.set_cons_zero, List.set_cons_succ]
  refine wpAnyH_take (i := 2) (oi := _) (v := ?v3) (by simp only [List.getElem?_toArray, List.getElem?_cons_succ, List.getElem?_cons_zero]; rfl) (by kernel_rfl) (by kernel_rfl) (by kernel_rfl) (fun _ _ _ h => h) (Or.inl ⟨by rfl, ?y3⟩) hHeld ?r3
  case y3 => (intro w hSw; (try dsimp only at hSw); go_simp; try with_reducible rfl)
  try simp only [Act.put, List.setIfInBounds_toArray, List.set_cons_zero, List.set_cons_succ]
  refine wpAnyH_take (i := 3) (oi := _) (v := ?v4) (by simp only [List.getElem?_toArray, List.getElem?_cons_succ, List.getElem?_cons_zero]; rfl) (by kernel_rfl) (by kernel_rfl) (by kernel_rfl) (fun _ _ _ h => h) (Or.inl ⟨by rfl, ?y4⟩) hHeld ?r4
  case y4 => (intro w hSw; (try dsimp only at hSw); go_simp; try with_reducible rfl)
  try simp only [Act.put, List.setIfInBounds_toArray, List.set_cons_zero, List.set_cons_succ]
  refine wpAnyH_take (i := 5) (oi := _) (v := ?v5) (by simp only [List.getElem?_toArray, List.getElem?_cons_succ, List.getElem?_cons_zero]; rfl) (by kernel_rfl) (by kernel_rfl) (by kernel_rfl) (fun _ _ _ h => h) (Or.inl ⟨by rfl, ?y5⟩) hHeld ?r5
  case y5 => (intro w hSw; (try dsimp only at hSw); go_simp; try with_reducible rfl)
  try simp only [Act.put, List.setIfInBounds_toArray, List.set_cons_zero, List.set_cons_succ]
  refine wpAnyH_take (i := 6) (oi := _) (v := ?v6) (by simp only [List.getElem?_toArray, List.getElem?_cons_succ, List.getElem?_cons_zero]; rfl) (by kernel_rfl) (by kernel_rfl) (by kernel_rfl) (fun _ _ _ h => h) (Or.inl ⟨by rfl, ?y6⟩) hHeld ?r6
  case y6 => (intro w hSw; (try dsimp only at hSw); go_simp; try with_reducible rfl)
  try simp only [Act.put, List.setIfInBounds_toArray, List.set_cons_zero, List.set_cons_succ]
  refine wpAnyH_take (i := 7) (oi := _) (v := ?v7) (by simp only [List.getElem?_toArray, List.getElem?_cons_succ, List.getElem?_cons_zero]; rfl) (by kernel_rfl) (by kernel_rfl) (by kernel_rfl) (fun _ _ _ h => h) (Or.inl ⟨by rfl, ?y7⟩) hHeld ?r7
  case y7 => (intro w hSw; (try dsimp only at hSw); go_simp; try with_reducible rfl)
  try simp only [Act.put, List.setIfInBounds_toArray, List.set_cons_zero, List.set_cons_succ]
  refine wpAnyH_take (i := 8) (oi := _) (v := ?v8) (by simp only [List.getElem?_toArray, List.getElem?_cons_succ, List.getElem?_cons_zero]; rfl) (by kernel_rfl) (by kernel_rfl) (by kernel_rfl) (fun _ _ _ h => h) (Or.inl ⟨by rfl, ?y8⟩) hHeld ?r8
  case y8 => (intro w hSw; (try dsimp only at hSw); go_simp; try with_reducible rfl)
  try simp only [Act.put, List.setIfInBounds_toArray, List.set_cons_zero, List.set_cons_succ]
  refine wpAnyH_take (i := 10) (oi := _) (v := ?v9) (by simp only [List.getElem?_toArray, List.getElem?_cons_succ, List.getElem?_cons_zero]; rfl) (by kernel_rfl) (by kernel_rfl) (by kernel_rfl) (fun _ _ _ h => h) (Or.inl ⟨by rfl, ?y9⟩) hHeld ?r9
  case y9 => (intro w hSw; (try dsimp only at hSw); go_simp; try with_reducible rfl)
  try simp only [Act.put, List.setIfInBounds_toArray, List.set_cons_zero, List.set_cons_succ]
  refine wpAnyH_take (i := 11) (oi := _) (v := ?v10) (by simp only [List.getElem?_toArray, List.getElem?_cons_succ, List.getElem?_cons_zero]; rfl) (by kernel_rfl) (by kernel_rfl) (by kernel_rfl) (fun _ _ _ h => h) (Or.inl ⟨by rfl, ?y10⟩) hHeld ?r10
  case y10 => (intro w hSw; (try dsimp only at hSw); go_simp; try with_reducible rfl)
  try simp only [Act.put, List.setIfInBounds_toArray, List.set_cons_zero, List.set_cons_succ]
  refine wpAnyH_take (i := 12) (oi := _) (v := ?v11) (by simp only [List.getElem?_toArray, List.getElem?_cons_succ, List.getElem?_cons_zero]; rfl) (by kernel_rfl) (by kernel_rfl) (by kernel_rfl) (fun _ _ _ h => h) (Or.inl ⟨by rfl, ?y11⟩) hHeld ?r11
  case y11 => (intro w hSw; (try dsimp only at hSw); go_simp; try with_reducible rfl)
  try simp only [Act.put, List.setIfInBounds_toArray, List.set_cons_zero, List.set_cons_succ]
  refine wpAnyH_take (i := 13) (oi := _) (v := ?v12) (by simp only [List.getElem?_toArray, List.getElem?_cons_succ, List.getElem?_cons_zero]; rfl) (by kernel_rfl) (by kernel_rfl) (by kernel_rfl) (fun _ _ _ h => h) (Or.inl ⟨by rfl, ?y12⟩) hHeld ?r12
  case y12 => (intro w hSw; (try dsimp only at hSw); go_simp; try with_reducible rfl)
  try simp only [Act.put, List.setIfInBounds_toArray, List.set_cons_zero, List.set_cons_succ]
  refine wpAnyH_take (i := 14) (oi := _) (v := ?v13) (by simp only [List.getElem?_toArray, List.getElem?_cons_succ, List.getElem?_cons_zero]; rfl) (by kernel_rfl) (by kernel_rfl) (by kernel_rfl) (fun _ _ _ h => h) (Or.inl ⟨by rfl, ?y13⟩) hHeld ?r13
  case y13 => (intro w hSw; (try dsimp only at hSw); go_simp; try with_reducible rfl)
  try simp only [Act.put, List.setIfInBounds_toArray, List.set_cons_zero, List.set_cons_succ]
  refine wpAnyH_take (i := 15) (oi := _) (v := ?v14) (by simp only [List.getElem?_toArray, List.getElem?_cons_succ, List.getElem?_cons_zero]; rfl) (by kernel_rfl) (by kernel_rfl) (by kernel_rfl) (fun _ _ _ h => h) (Or.inl ⟨by rfl, ?y14⟩) hHeld ?r14
  case y14 => (intro w hSw; (try dsimp only at hSw); go_simp; try with_reducible rfl)
  try simp only [Act.put, List.setIfInBounds_toArray, List.set_cons_zero, List.set_cons_succ]
  refine wpAnyH_take (i := 16) (oi := _) (v := ?v15) (by simp only [List.getElem?_toArray, List.getElem?_cons_succ, List.getElem?_cons_zero]; rfl) (by kernel_rfl) (by kernel_rfl) (by kernel_rfl) (fun _ _ _ h => h) (Or.inl ⟨by rfl, ?y15⟩) hHeld ?r15
  case y15 => (intro w hSw; (try dsimp only at hSw); go_simp; try with_reducible rfl)
  try simp only [Act.put, List.setIfInBounds_toArray, List.set_cons_zero, List.set_cons_succ]
  refine wpAnyH_take (i := 19) (oi := _) (v := ?v16) (by simp only [List.getElem?_toArray, List.getElem?_cons_succ, List.getElem?_cons_zero]; rfl) (by kernel_rfl) (by kernel_rfl) (by kernel_rfl) (fun _ _ _ h => h) (Or.inl ⟨by rfl, ?y16⟩) hHeld ?r16
  case y16 => (intro w hSw; (try dsimp only at hSw); go_simp; try with_reducible rfl)
  try simp only [Act.put, List.setIfInBounds_toArray, List.set_cons_zero, List.set_cons_succ]
  refine wpAnyH_take (i := 20) (oi := _) (v := ?v17) (by simp only [List.getElem?_toArray, List.getElem?_cons_succ, List.getElem?_cons_zero]; rfl) (by kernel_rfl) (by kernel_rfl) (by kernel_rfl) (fun _ _ _ h => h) (Or.inl ⟨by rfl, ?y17⟩) hHeld ?r17
  case y17 => (intro w hSw; (try dsimp only at hSw); go_simp; try with_reducible rfl)
  try simp only [Act.put, List.setIfInBounds_toArray, List.set_cons_zero, List.set_cons_succ]
  refine wpAnyH_take (i := 21) (oi := _) (v := ?v18) (by simp only [List.getElem?_toArray, List.getElem?_cons_succ, List.getElem?_cons_zero]; rfl) (by kernel_rfl) (by kernel_rfl) (by kernel_rfl) (fun _ _ _ h => h) (Or.inl ⟨by rfl, ?y18⟩) hHeld ?r18
  case y18 => (intro w hSw; (try dsimp only at hSw); go_simp; try with_reducible rfl)
  try simp only [Act.put, List.setIfInBounds_toArray, List.set_cons_zero, List.set_cons_succ]
  refine wpAnyH_take (i := 22) (oi := _) (v := ?v19) (by simp only [List.getElem?_toArray, List.getElem?_cons_succ, List.getElem?_cons_zero]; rfl) (by kernel_rfl) (by kernel_rfl) (by kernel_rfl) (fun _ _ _ h => h) (Or.inl ⟨by rfl, ?y19⟩) hHeld ?r19
  case y19 => (intro w hSw; (try dsimp only at hSw); go_simp; try with_reducible rfl)
  try simp only [Act.put, List.setIfInBounds_toArray, List.set_cons_zero, List.set_cons_succ]
  refine wpAnyH_ready (rs := [4, 17]) (by kernel_rfl) (by simp) ?_
  refine AllReadyH.cons (o := _) (by simp only [List.getElem?_toArray, List.getElem?_cons_succ, List.getElem?_cons_zero]; rfl) (fun K hK => ?_) ?_
  rotate_left
  refine AllReadyH.cons (o := _) (by simp only [List.getElem?_toArray, List.getElem?_cons_succ, List.getElem?_cons_zero]; rfl) (fun K hK => ?_) ?_
  rotate_left
  exact AllReadyH.nil
  · go_simp
    refine hK.out _ _ (hHeld) (fun hHeld => ?_)
    clear hK K
    try simp only [Act.put, List.setIfInBounds_toArray, List.set_cons_zero, List.set_cons_succ]
    refine wpAnyH_ready (rs := [9, 17]) (by kernel_rfl) (by simp) ?_
    refine AllReadyH.cons (o := _) (by simp only [List.getElem?_toArray, List.getElem?_cons_succ, List.getElem?_cons_zero]; rfl) (fun K hK => ?_) ?_
    rotate_left
    refine AllReadyH.cons (o := _) (by simp only [List.getElem?_toArray, List.getElem?_cons_succ, List.getElem?_cons_zero]; rfl) (fun K hK => ?_) ?_
    rotate_left
    exact AllReadyH.nil
    · go_simp
      refine (CMG.out _ hHeld).mono ?_
      rintro e wA ⟨vm, rfl, hoA, hbA⟩
      have hRA : RefGw wA M u v (.slice A1 l1 k1) vw1 s1 := (by first | exact HM3.out.call hbA | exact HM3.out.call ((Below.refl _ _).drew.trans hbA))
      have a2 := hRA.c2
      try (go_wp2_with fail)
      refine hK.out _ _ (HST.out _ _ hHeld hbA) (fun hHeld => ?_)
      clear hK K
      try simp only [Act.put, List.setIfInBounds_toArray, List.set_cons_zero, List.set_cons_succ]
      refine wpAnyH_ready (rs := [17]) (by kernel_rfl) (by simp) ?_
      refine AllReadyH.cons (o := _) (by simp only [List.getElem?_toArray, List.getElem?_cons_succ, List.getElem?_cons_zero]; rfl) (fun K hK => ?_) AllReadyH.nil
      go_simp
      refine hK.out _ _ (hHeld) (fun hHeld => ?_)
      clear hK K
      try simp only [Act.put, List.setIfInBounds_toArray, List.set_cons_zero, List.set_cons_succ]
      refine wpAnyH_ready (rs := [18]) (by kernel_rfl) (by simp) ?_
      refine AllReadyH.cons (o := _) (by simp only [List.getElem?_toArray, List.getElem?_cons_succ, List.getElem?_cons_zero]; rfl) (fun K hK => ?_) AllReadyH.nil
      go_simp
      refine (CT1.out _ hHeld).mono ?_
      rintro e wB ⟨rfl, hbB⟩
      have hRB := hRA.call hbB
      have hoB := hoA.call hbB
      try (go_wp2_with fail)
      refine hK.out _ _ (HST.out _ _ hHeld hbB) (fun hHeld => ?_)
      clear hK K
      try simp only [Act.put, List.setIfInBounds_toArray, List.set_cons_zero, List.set_cons_succ]
      refine wpAnyH_ready (rs := [23]) (by kernel_rfl) (by simp) ?_
      refine AllReadyH.cons (o := _) (by simp only [List.getElem?_toArray, List.getElem?_cons_succ, List.getElem?_cons_zero]; rfl) (fun K hK => ?_) AllReadyH.nil
      go_simp
      refine (CT2.out _ hHeld).mono ?_
      rintro e wC ⟨rfl, hbC⟩
      have hRC := hRB.call hbC
      have hoC := hoB.call hbC
      try (go_wp2_with fail)
      refine hK.out _ _ (HST.out _ _ hHeld hbC) (fun hHeld => ?_)
      clear hK K
      try simp only [Act.put, List.setIfInBounds_toArray, List.set_cons_zero, List.set_cons_succ]
      refine wpAnyH_take (i := 24) (oi := _) (v := ?v20) (by simp only [List.getElem?_toArray, List.getElem?_cons_succ, List.getElem?_cons_zero]; rfl) (by kernel_rfl) (by kernel_rfl) (by kernel_rfl) (fun _ _ _ h => h) (Or.inl ⟨by rfl, ?y20⟩) hHeld ?r20
      case y20 => (intro w hSw; (try dsimp only at hSw); go_simp; try with_reducible rfl)
      try simp only [Act.put, List.setIfInBounds_toArray, List.set_cons_zero, List.set_cons_succ]
      refine wpAnyH_ready (rs := [25]) (by kernel_rfl) (by simp) ?_
      refine AllReadyH.cons (o := _) (by simp only [List.getElem?_toArray, List.getElem?_cons_succ, List.getElem?_cons_zero]; rfl) (fun K hK => ?_) AllReadyH.nil
      go_simp
      refine (CL.out _).mono ?_
      rintro e wD ⟨rfl, hbD⟩
      have hRD := hRC.call hbD
      have hoD := hoC.call hbD
      try (go_wp2_with fail)
      refine hK.out _ _ (HST.out _ _ hHeld hbD) (fun hHeld => ?_)
      clear hK K
      try simp only [Act.put, List.setIfInBounds_toArray, List.set_cons_zero, List.set_cons_succ]
      refine wpAnyH_ready (rs := [26]) (by kernel_rfl) (by simp) ?_
      refine AllReadyH.cons (o := _) (by simp only [List.getElem?_toArray, List.getElem?_cons_succ, List.getElem?_cons_zero]; rfl) (fun K hK => ?_) AllReadyH.nil
      go_simp
      refine (CS.out _ _ _ hoD).mono ?_
      rintro e wE ⟨vE, rfl, hoE, hbE⟩
      obtain ⟨AE, kE, lE, rfl⟩ : ∃ AE kE lE, vE = .slice AE lE kE := (by obtain ⟨a, b, e⟩ := hoE.form; exact ⟨a, b, _, e⟩)
      have hRE := hRD.call hbE
      have g2 := hRE.c2
      have g3 := hRE.f0 2
      try (go_wp2_with fail)
      refine hK.out _ _ (HST.out _ _ hHeld hbE) (fun hHeld => ?_)
      clear hK K
      try simp only [Act.put, List.setIfInBounds_toArray, List.set_cons_zero, List.set_cons_succ]
      refine wpAnyH_take (i := 27) (oi := _) (v := ?v21) (by simp only [List.getElem?_toArray, List.getElem?_cons_succ, List.getElem?_cons_zero]; rfl) (by kernel_rfl) (by kernel_rfl) (by kernel_rfl) (fun _ _ _ h => h) (Or.inl ⟨by rfl, ?y21⟩) hHeld ?r21
      case y21 => (intro w hSw; (try dsimp only at hSw); go_simp; try with_reducible rfl)
      try simp only [Act.put, List.setIfInBounds_toArray, List.set_cons_zero, List.set_cons_succ]
      refine wpAnyH_take (i := 28) (oi := _) (v := ?v22) (by simp only [List.getElem?_toArray, List.getElem?_cons_succ, List.getElem?_cons_zero]; rfl) (by kernel_rfl) (by kernel_rfl) (by kernel_rfl) (fun _ _ _ h => h) (Or.inl ⟨by rfl, ?y22⟩) hHeld ?r22
      case y22 => (intro w hSw; (try dsimp only at hSw); go_simp; try with_reducible rfl)
      try simp only [Act.put, List.setIfInBounds_toArray, List.set_cons_zero, List.set_cons_succ]
      refine wpAnyH_ready (rs := [29]) (by kernel_rfl) (by simp) ?_
      refine AllReadyH.cons (o := _) (by simp only [List.getElem?_toArray, List.getElem?_cons_succ, List.getElem?_cons_zero]; rfl) (fun K hK => ?_) AllReadyH.nil
      go_simp
      refine hK.out _ _ (HSV.out _ _ hHeld) (fun hHeld => ?_)
      clear hK K
      try simp only [Act.put, List.setIfInBounds_toArray, List.set_cons_zero, List.set_cons_succ]
      refine wpAnyH_done (by kernel_rfl) ?_ _
      refine NoPanic.normal ?_
      have hNE : (Value.slice AE lE kE).ownBlock ≠ some M := fun e => by have := (hoE.lt M e).1; have := hRD.lt; omega
      have hRF := hRE.put2 hoE hNE (fun g hg e => by have h1 := (hoE.lt g e).1; have h2 := (hRD.waits.lt g hg).2; omega)
      rw [HE2.out, ← HJ.out] at hRF
      have hgE : w3.grownBy (wE.setCell ⟨M, 2, none⟩ (.slice AE lE kE)) (some M) := hHeld.2.2.2
      have hdz : w3.drew.heap.size = w3.heap.size := rfl
      have hz1 := hbA.size
      have hz2 := hbB.size
      have hz3 := hbC.size
      have hz4 := hbD.size
      have hFin : JoinedR w M u v vw (joinG u v s t) (wE.setCell ⟨M, 2, none⟩ (.slice AE lE kE)) := ⟨_, _, hRF, HGF.out _ hgE, fun g hg => (by have h1 := (hoE.lt g hg).1; have h2 := HSZ3.out; omega), HZ3.out⟩
      have HF := Lib.hid hFin
      clear hFin hRF hgE hdz hz1 hz2 hz3 hz4
      go_wp2_with fail
      first
      | (go_end0; exact ⟨rfl, HF.out⟩)
      | exact bodyPost_ret (results_none rfl _ _ _) rfl ⟨rfl, HF.out⟩
    · go_simp
      refine hK.out _ _ (hHeld) (fun hHeld => ?_)
      clear hK K
      try simp only [Act.put, List.setIfInBounds_toArray, List.set_cons_zero, List.set_cons_succ]
      refine wpAnyH_ready (rs := [9]) (by kernel_rfl) (by simp) ?_
      refine AllReadyH.cons (o := _) (by simp only [List.getElem?_toArray, List.getElem?_cons_succ, List.getElem?_cons_zero]; rfl) (fun K hK => ?_) AllReadyH.nil
      go_simp
      refine (CMG.out _ hHeld).mono ?_
      rintro e wA ⟨vm, rfl, hoA, hbA⟩
      have hRA : RefGw wA M u v (.slice A1 l1 k1) vw1 s1 := (by first | exact HM3.out.call hbA | exact HM3.out.call ((Below.refl _ _).drew.trans hbA))
      have a2 := hRA.c2
      try (go_wp2_with fail)
      refine hK.out _ _ (HST.out _ _ hHeld hbA) (fun hHeld => ?_)
      clear hK K
      try simp only [Act.put, List.setIfInBounds_toArray, List.set_cons_zero, List.set_cons_succ]
      refine wpAnyH_ready (rs := [18]) (by kernel_rfl) (by simp) ?_
      refine AllReadyH.cons (o := _) (by simp only [List.getElem?_toArray, List.getElem?_cons_succ, List.getElem?_cons_zero]; rfl) (fun K hK => ?_) AllReadyH.nil
      go_simp
      refine (CT1.out _ hHeld).mono ?_
      rintro e wB ⟨rfl, hbB⟩
      have hRB := hRA.call hbB
      have hoB := hoA.call hbB
      try (go_wp2_with fail)
      refine hK.out _ _ (HST.out _ _ hHeld hbB) (fun hHeld => ?_)
      clear hK K
      try simp only [Act.put, List.setIfInBounds_toArray, List.set_cons_zero, List.set_cons_succ]
      refine wpAnyH_ready (rs := [23]) (by kernel_rfl) (by simp) ?_
      refine AllReadyH.cons (o := _) (by simp only [List.getElem?_toArray, List.getElem?_cons_succ, List.getElem?_cons_zero]; rfl) (fun K hK => ?_) AllReadyH.nil
      go_simp
      refine (CT2.out _ hHeld).mono ?_
      rintro e wC ⟨rfl, hbC⟩
      have hRC := hRB.call hbC
      have hoC := hoB.call hbC
      try (go_wp2_with fail)
      refine hK.out _ _ (HST.out _ _ hHeld hbC) (fun hHeld => ?_)
      clear hK K
      try simp only [Act.put, List.setIfInBounds_toArray, List.set_cons_zero, List.set_cons_succ]
      refine wpAnyH_take (i := 24) (oi := _) (v := ?v23) (by simp only [List.getElem?_toArray, List.getElem?_cons_succ, List.getElem?_cons_zero]; rfl) (by kernel_rfl) (by kernel_rfl) (by kernel_rfl) (fun _ _ _ h => h) (Or.inl ⟨by rfl, ?y23⟩) hHeld ?r23
      case y23 => (intro w hSw; (try dsimp only at hSw); go_simp; try with_reducible rfl)
      try simp only [Act.put, List.setIfInBounds_toArray, List.set_cons_zero, List.set_cons_succ]
      refine wpAnyH_ready (rs := [25]) (by kernel_rfl) (by simp) ?_
      refine AllReadyH.cons (o := _) (by simp only [List.getElem?_toArray, List.getElem?_cons_succ, List.getElem?_cons_zero]; rfl) (fun K hK => ?_) AllReadyH.nil
      go_simp
      refine (CL.out _).mono ?_
      rintro e wD ⟨rfl, hbD⟩
      have hRD := hRC.call hbD
      have hoD := hoC.call hbD
      try (go_wp2_with fail)
      refine hK.out _ _ (HST.out _ _ hHeld hbD) (fun hHeld => ?_)
      clear hK K
      try simp only [Act.put, List.setIfInBounds_toArray, List.set_cons_zero, List.set_cons_succ]
      refine wpAnyH_ready (rs := [26]) (by kernel_rfl) (by simp) ?_
      refine AllReadyH.cons (o := _) (by simp only [List.getElem?_toArray, List.getElem?_cons_succ, List.getElem?_cons_zero]; rfl) (fun K hK => ?_) AllReadyH.nil
      go_simp
      refine (CS.out _ _ _ hoD).mono ?_
      rintro e wE ⟨vE, rfl, hoE, hbE⟩
      obtain ⟨AE, kE, lE, rfl⟩ : ∃ AE kE lE, vE = .slice AE lE kE := (by obtain ⟨a, b, e⟩ := hoE.form; exact ⟨a, b, _, e⟩)
      have hRE := hRD.call hbE
      have g2 := hRE.c2
      have g3 := hRE.f0 2
      try (go_wp2_with fail)
      refine hK.out _ _ (HST.out _ _ hHeld hbE) (fun hHeld => ?_)
      clear hK K
      try simp only [Act.put, List.setIfInBounds_toArray, List.set_cons_zero, List.set_cons_succ]
      refine wpAnyH_take (i := 27) (oi := _) (v := ?v24) (by simp only [List.getElem?_toArray, List.getElem?_cons_succ, List.getElem?_cons_zero]; rfl) (by kernel_rfl) (by kernel_rfl) (by kernel_rfl) (fun _ _ _ h => h) (Or.inl ⟨by rfl, ?y24⟩) hHeld ?r24
      case y24 => (intro w hSw; (try dsimp only at hSw); go_simp; try with_reducible rfl)
      try simp only [Act.put, List.setIfInBounds_toArray, List.set_cons_zero, List.set_cons_succ]
      refine wpAnyH_take (i := 28) (oi := _) (v := ?v25) (by simp only [List.getElem?_toArray, List.getElem?_cons_succ, List.getElem?_cons_zero]; rfl) (by kernel_rfl) (by kernel_rfl) (by kernel_rfl) (fun _ _ _ h => h) (Or.inl ⟨by rfl, ?y25⟩) hHeld ?r25
      case y25 => (intro w hSw; (try dsimp only at hSw); go_simp; try with_reducible rfl)
      try simp only [Act.put, List.setIfInBounds_toArray, List.set_cons_zero, List.set_cons_succ]
      refine wpAnyH_ready (rs := [29]) (by kernel_rfl) (by simp) ?_
      refine AllReadyH.cons (o := _) (by simp only [List.getElem?_toArray, List.getElem?_cons_succ, List.getElem?_cons_zero]; rfl) (fun K hK => ?_) AllReadyH.nil
      go_simp
      refine hK.out _ _ (HSV.out _ _ hHeld) (fun hHeld => ?_)
      clear hK K
      try simp only [Act.put, List.setIfInBounds_toArray, List.set_cons_zero, List.set_cons_succ]
      refine wpAnyH_done (by kernel_rfl) ?_ _
      refine NoPanic.normal ?_
      have hNE : (Value.slice AE lE kE).ownBlock ≠ some M := fun e => by have := (hoE.lt M e).1; have := hRD.lt; omega
      have hRF := hRE.put2 hoE hNE (fun g hg e => by have h1 := (hoE.lt g e).1; have h2 := (hRD.waits.lt g hg).2; omega)
      rw [HE2.out, ← HJ.out] at hRF
      have hgE : w3.grownBy (wE.setCell ⟨M, 2, none⟩ (.slice AE lE kE)) (some M) := hHeld.2.2.2
      have hdz : w3.drew.heap.size = w3.heap.size := rfl
      have hz1 := hbA.size
      have hz2 := hbB.size
      have hz3 := hbC.size
      have hz4 := hbD.size
      have hFin : JoinedR w M u v vw (joinG u v s t) (wE.setCell ⟨M, 2, none⟩ (.slice AE lE kE)) := ⟨_, _, hRF, HGF.out _ hgE, fun g hg => (by have h1 := (hoE.lt g hg).1; have h2 := HSZ3.out; omega), HZ3.out⟩
      have HF := Lib.hid hFin
      clear hFin hRF hgE hdz hz1 hz2 hz3 hz4
      go_wp2_with fail
      first
      | (go_end0; exact ⟨rfl, HF.out⟩)
      | exact bodyPost_ret (results_none rfl _ _ _) rfl ⟨rfl, HF.out⟩
  · go_simp
    refine hK.out _ _ (hHeld) (fun hHeld => ?_)
    clear hK K
    try simp only [Act.put, List.setIfInBounds_toArray, List.set_cons_zero, List.set_cons_succ]
    refine wpAnyH_ready (rs := [4]) (by kernel_rfl) (by simp) ?_
    refine AllReadyH.cons (o := _) (by simp only [List.getElem?_toArray, List.getElem?_cons_succ, List.getElem?_cons_zero]; rfl) (fun K hK => ?_) AllReadyH.nil
    go_simp
    refine hK.out _ _ (hHeld) (fun hHeld => ?_)
    clear hK K
    try simp only [Act.put, List.setIfInBounds_toArray, List.set_cons_zero, List.set_cons_succ]
    refine wpAnyH_ready (rs := [9]) (by kernel_rfl) (by simp) ?_
    refine AllReadyH.cons (o := _) (by simp only [List.getElem?_toArray, List.getElem?_cons_succ, List.getElem?_cons_zero]; rfl) (fun K hK => ?_) AllReadyH.nil
    go_simp
    refine (CMG.out _ hHeld).mono ?_
    rintro e wA ⟨vm, rfl, hoA, hbA⟩
    have hRA : RefGw wA M u v (.slice A1 l1 k1) vw1 s1 := (by first | exact HM3.out.call hbA | exact HM3.out.call ((Below.refl _ _).drew.trans hbA))
    have a2 := hRA.c2
    try (go_wp2_with fail)
    refine hK.out _ _ (HST.out _ _ hHeld hbA) (fun hHeld => ?_)
    clear hK K
    try simp only [Act.put, List.setIfInBounds_toArray, List.set_cons_zero, List.set_cons_succ]
    refine wpAnyH_ready (rs := [18]) (by kernel_rfl) (by simp) ?_
    refine AllReadyH.cons (o := _) (by simp only [List.getElem?_toArray, List.getElem?_cons_succ, List.getElem?_cons_zero]; rfl) (fun K hK => ?_) AllReadyH.nil
    go_simp
    refine (CT1.out _ hHeld).mono ?_
    rintro e wB ⟨rfl, hbB⟩
    have hRB := hRA.call hbB
    have hoB := hoA.call hbB
    try (go_wp2_with fail)
    refine hK.out _ _ (HST.out _ _ hHeld hbB) (fun hHeld => ?_)
    clear hK K
    try simp only [Act.put, List.setIfInBounds_toArray, List.set_cons_zero, List.set_cons_succ]
    refine wpAnyH_ready (rs := [23]) (by kernel_rfl) (by simp) ?_
    refine AllReadyH.cons (o := _) (by simp only [List.getElem?_toArray, List.getElem?_cons_succ, List.getElem?_cons_zero]; rfl) (fun K hK => ?_) AllReadyH.nil
    go_simp
    refine (CT2.out _ hHeld).mono ?_
    rintro e wC ⟨rfl, hbC⟩
    have hRC := hRB.call hbC
    have hoC := hoB.call hbC
    try (go_wp2_with fail)
    refine hK.out _ _ (HST.out _ _ hHeld hbC) (fun hHeld => ?_)
    clear hK K
    try simp only [Act.put, List.setIfInBounds_toArray, List.set_cons_zero, List.set_cons_succ]
    refine wpAnyH_take (i := 24) (oi := _) (v := ?v26) (by simp only [List.getElem?_toArray, List.getElem?_cons_succ, List.getElem?_cons_zero]; rfl) (by kernel_rfl) (by kernel_rfl) (by kernel_rfl) (fun _ _ _ h => h) (Or.inl ⟨by rfl, ?y26⟩) hHeld ?r26
    case y26 => (intro w hSw; (try dsimp only at hSw); go_simp; try with_reducible rfl)
    try simp only [Act.put, List.setIfInBounds_toArray, List.set_cons_zero, List.set_cons_succ]
    refine wpAnyH_ready (rs := [25]) (by kernel_rfl) (by simp) ?_
    refine AllReadyH.cons (o := _) (by simp only [List.getElem?_toArray, List.getElem?_cons_succ, List.getElem?_cons_zero]; rfl) (fun K hK => ?_) AllReadyH.nil
    go_simp
    refine (CL.out _).mono ?_
    rintro e wD ⟨rfl, hbD⟩
    have hRD := hRC.call hbD
    have hoD := hoC.call hbD
    try (go_wp2_with fail)
    refine hK.out _ _ (HST.out _ _ hHeld hbD) (fun hHeld => ?_)
    clear hK K
    try simp only [Act.put, List.setIfInBounds_toArray, List.set_cons_zero, List.set_cons_succ]
    refine wpAnyH_ready (rs := [26]) (by kernel_rfl) (by simp) ?_
    refine AllReadyH.cons (o := _) (by simp only [List.getElem?_toArray, List.getElem?_cons_succ, List.getElem?_cons_zero]; rfl) (fun K hK => ?_) AllReadyH.nil
    go_simp
    refine (CS.out _ _ _ hoD).mono ?_
    rintro e wE ⟨vE, rfl, hoE, hbE⟩
    obtain ⟨AE, kE, lE, rfl⟩ : ∃ AE kE lE, vE = .slice AE lE kE := (by obtain ⟨a, b, e⟩ := hoE.form; exact ⟨a, b, _, e⟩)
    have hRE := hRD.call hbE
    have g2 := hRE.c2
    have g3 := hRE.f0 2
    try (go_wp2_with fail)
    refine hK.out _ _ (HST.out _ _ hHeld hbE) (fun hHeld => ?_)
    clear hK K
    try simp only [Act.put, List.setIfInBounds_toArray, List.set_cons_zero, List.set_cons_succ]
    refine wpAnyH_take (i := 27) (oi := _) (v := ?v27) (by simp only [List.getElem?_toArray, List.getElem?_cons_succ, List.getElem?_cons_zero]; rfl) (by kernel_rfl) (by kernel_rfl) (by kernel_rfl) (fun _ _ _ h => h) (Or.inl ⟨by rfl, ?y27⟩) hHeld ?r27
    case y27 => (intro w hSw; (try dsimp only at hSw); go_simp; try with_reducible rfl)
    try simp only [Act.put, List.setIfInBounds_toArray, List.set_cons_zero, List.set_cons_succ]
    refine wpAnyH_take (i := 28) (oi := _) (v := ?v28) (by simp only [List.getElem?_toArray, List.getElem?_cons_succ, List.getElem?_cons_zero]; rfl) (by kernel_rfl) (by kernel_rfl) (by kernel_rfl) (fun _ _ _ h => h) (Or.inl ⟨by rfl, ?y28⟩) hHeld ?r28
    case y28 => (intro w hSw; (try dsimp only at hSw); go_simp; try with_reducible rfl)
    try simp only [Act.put, List.setIfInBounds_toArray, List.set_cons_zero, List.set_cons_succ]
    refine wpAnyH_ready (rs := [29]) (by kernel_rfl) (by simp) ?_
    refine AllReadyH.cons (o := _) (by simp only [List.getElem?_toArray, List.getElem?_cons_succ, List.getElem?_cons_zero]; rfl) (fun K hK => ?_) AllReadyH.nil
    go_simp
    refine hK.out _ _ (HSV.out _ _ hHeld) (fun hHeld => ?_)
    clear hK K
    try simp only [Act.put, List.setIfInBounds_toArray, List.set_cons_zero, List.set_cons_succ]
    refine wpAnyH_done (by kernel_rfl) ?_ _
    refine NoPanic.normal ?_
    have hNE : (Value.slice AE lE kE).ownBlock ≠ some M := fun e => by have := (hoE.lt M e).1; have := hRD.lt; omega
    have hRF := hRE.put2 hoE hNE (fun g hg e => by have h1 := (hoE.lt g e).1; have h2 := (hRD.waits.lt g hg).2; omega)
    rw [HE2.out, ← HJ.out] at hRF
    have hgE : w3.grownBy (wE.setCell ⟨M, 2, none⟩ (.slice AE lE kE)) (some M) := hHeld.2.2.2
    have hdz : w3.drew.heap.size = w3.heap.size := rfl
    have hz1 := hbA.size
    have hz2 := hbB.size
    have hz3 := hbC.size
    have hz4 := hbD.size
    have hFin : JoinedR w M u v vw (joinG u v s t) (wE.setCell ⟨M, 2, none⟩ (.slice AE lE kE)) := ⟨_, _, hRF, HGF.out _ hgE, fun g hg => (by have h1 := (hoE.lt g hg).1; have h2 := HSZ3.out; omega), HZ3.out⟩
    have HF := Lib.hid hFin
    clear hFin hRF hgE hdz hz1 hz2 hz3 hz4
    go_wp2_with fail
    first
    | (go_end0; exact ⟨rfl, HF.out⟩)
    | exact bodyPost_ret (results_none rfl _ _ _) rfl ⟨rfl, HF.out⟩
end Go.Proofs.YtfmlkohijkalbaaGreat

/-
  Rows of values of the call's own.
-/
namespace Go.Proofs.YtfmlkohijkalbaaGreat
set_option linter.unusedVariables false
set_option linter.unusedSimpArgs false
set_option maxRecDepth 100000
open Go.RowKit

theorem own_valsG {w : World} {base : Nat} {v : Value} {L : List PairV} (h : w.ownsRow base 50 2 v L.length (cellsQ L)) (hok : ∀ p, p ∈ L → okP p) :
    ∃ A cap, v = .slice A L.length cap ∧ Pairs w A L := by
  have hh := h
  rcases h.2 with ⟨rfl, h0⟩ | ⟨g, cap, cur, rfl, _, hg, _⟩
  · have e : L = [] := List.eq_nil_of_length_eq_zero h0
    subst e
    exact ⟨none, 0, rfl, hok, fun i p hi => by simp at hi⟩
  · refine ⟨some ⟨g, 0, none⟩, cap, rfl, hok, fun i p hi => ?_⟩
    have hc := hh.cells (g := g) rfl
    obtain ⟨c0, c1⟩ := cellsQ_at L i p hi
    refine ⟨g, 0, rfl, lt_of_block hg, ?_, ?_⟩
    · rw [← add_flat]; exact hc _ _ c0
    · rw [Nat.add_assoc, ← add_flat]; exact hc _ _ c1
theorem Tryz.infoValG : (Tryz.prog.info? 50).map (fun i => (i.zero, i.size, i.bytes)) = some (some (.agg #[.int .i64 0, .int .u64 0]), 2, 16) := by kernel_rfl
def OwnVG (w : World) (base : Nat) (v : Value) (L : List PairV) : Prop := w.ownsRow base 50 2 v L.length (cellsQ L)
theorem OwnVG.nil (w : World) (base : Nat) : OwnVG w base (.slice none 0 0) [] := World.ownsRow_nil _ _ _ _
theorem OwnVG.call {w w' : World} {base : Nat} {v : Value} {L : List PairV} (h : OwnVG w base v L) (hb : Below w.heap.size w w') : OwnVG w' base v L :=
  World.ownsRow.kept (row := none) h ⟨hb.os, hb.tape, hb.output, hb.size, fun i hi _ => hb.block i hi⟩ (by cases v.ownBlock <;> simp)
theorem OwnVG.pairs {w : World} {base : Nat} {v : Value} {L : List PairV} (h : OwnVG w base v L) (hok : ∀ p, p ∈ L → okP p) : ∃ A cap, v = .slice A L.length cap ∧ Pairs w A L := own_valsG h hok
theorem OwnVG.lt {w : World} {base : Nat} {v : Value} {L : List PairV} (h : OwnVG w base v L) : ∀ k, v.ownBlock = some k → base ≤ k ∧ k < w.heap.size := World.ownsRow.lt h

theorem OwnVG.form {w : World} {base : Nat} {v : Value} {L : List PairV} (h : OwnVG w base v L) : ∃ A cap, v = .slice A L.length cap := by
  have h' : w.ownsRow base 50 2 v L.length (cellsQ L) := h
  rcases h'.2 with ⟨rfl, h0⟩ | ⟨g, cap, cur, rfl, _⟩
  · exact ⟨none, 0, by rw [h0]⟩
  · exact ⟨_, _, rfl⟩
/-- Appending a whole row of pairs, a nil one too, to one of the call's own. -/
theorem wpList_append_valsG {w : World} {ops : Array Oper} {rest : List Oper} {o : Oper} {a : Act} {Q : Exit → Act → World → Prop} (hgd : o.guard = none) (s x : Operand)
    (ho : o.op = .call { callee := .builtin .append, args := #[s, x], argTypes := #[25, 25] })
    (base : Nat) (v : Value) (M : List PairV) (A : Option Addr) (cap : Nat) (L : List PairV) (hs : a.eval s = v) (hown : OwnVG w base v M)
    (hx : a.eval x = .slice A L.length cap) (hsrc : Pairs w A L) (hn : M.length + L.length ≤ 100000) (hbase : base ≤ w.heap.size)
    (h : ∀ v' w', OwnVG w' base v' (M ++ L) → w.grownBy w' v.ownBlock → wpList Tryz.prog ops Q rest (a.put o.dst v') w') : wpList Tryz.prog ops Q (o :: rest) a w := by
  obtain ⟨i0, hi, hz0, hz1, hz2⟩ := info_parts Tryz.infoValG
  by_cases hL : L = []
  · subst hL
    have hx' : a.eval x = .slice A 0 cap := hx
    have hrun : (Builtin.append_ #[25, 25] o.type #[v, .slice A 0 cap]).run Tryz.prog w = .ok v w := by
      have hl : ∀ (b : Option Addr) (n c : Nat), (Builtin.firstCells 2 0 (.slice A 0 cap)).run Tryz.prog w = .ok #[] w := by
        intro b n c
        cases A with
        | none => exact run_firstCells_none w 2 0 0 cap
        | some ad => exact run_firstCells_some w 2 0 ad 0 cap [] rfl (fun j v hj => by simp at hj)
      rcases hown.2 with ⟨rfl, h0⟩ | ⟨g, c2, cur, rfl, _, _, hnc, _⟩
      · rw [show (0 : Nat) = 0 from rfl] at *
        simp [Builtin.append_, run_underlying Tryz.underlying25, sizeOf, typeInfo, hi, hz1, Builtin.lenOf, hl none 0 0]
      · simp [Builtin.append_, run_underlying Tryz.underlying25, sizeOf, typeInfo, hi, hz1, Builtin.lenOf, hnc, storeCells, hl none 0 0]
    refine wpList_plain hgd fun K hK => ?_
    unfold Oper.wp
    simp [execOp, ho, resolve, invoke, builtin, hs, hx', hrun, Result.andThen]
    exact hK _ _ (h v w (by rw [List.append_nil]; exact hown) (World.grownBy.refl _ _))
  · obtain ⟨p, hp⟩ : ∃ p, L[0]? = some p := by
      cases L with
      | nil => exact absurd rfl hL
      | cons p r => exact ⟨p, rfl⟩
    obtain ⟨b, off, rfl, _, _, _⟩ := hsrc.at_ 0 p hp
    refine wpList_append_own w hgd s x _ ho base _ i0 _ 2 16 Tryz.underlying25 hi hz0 hz1 hz2 rfl (by decide) v M.length (cellsQ M) hs hown ⟨b, off, none⟩ L.length cap (cellsQ L) hx (cellsQ_len L) ?_ (cellsQ_one L)
      (by unfold maxLen; omega) (by omega) hbase (fun v' w' h1 h2 _ => h v' w' ?_ h2)
    · intro j u hu
      rw [add_flat]
      have hj : j < L.length * 2 := by
        rcases Nat.lt_or_ge j (L.length * 2) with h1 | h1
        · exact h1
        · rw [List.getElem?_eq_none (by rw [cellsQ_len]; exact h1)] at hu; cases hu
      have hq := List.getElem?_eq_getElem (l := L) (i := j / 2) (by omega)
      obtain ⟨b', off', e, _, c0, c1⟩ := hsrc.at_ (j / 2) _ hq
      obtain ⟨rfl, rfl⟩ : b = b' ∧ off = off' := by
        have := Option.some.inj e
        exact ⟨(Addr.mk.inj this).1, (Addr.mk.inj this).2.1⟩
      obtain ⟨q0, q1⟩ := cellsQ_at L (j / 2) _ hq
      rcases Nat.mod_two_eq_zero_or_one j with h2 | h2
      · have e1 : j / 2 * 2 = j := by omega
        rw [e1] at q0 c0; rw [q0] at hu; rw [c0, ← Option.some.inj hu]
      · have e1 : j / 2 * 2 + 1 = j := by omega
        rw [Nat.add_assoc, e1] at c1; rw [e1] at q1; rw [q1] at hu; rw [c1, ← Option.some.inj hu]
    · unfold OwnVG
      rw [cellsQ_app, List.length_append]
      exact h1


theorem OwnVG.below {a w w' : World} {base : Nat} {v : Value} {L : List PairV} (h : OwnVG w base v L) (hb : Below base a w) (hg : w.grownBy w' v.ownBlock) (hs : base ≤ w.heap.size) : Below base a w' := hb.grown hg hs (fun k hk => (h.lt k hk).1)

theorem OwnVG.lies {w : World} {base n cap : Nat} {a : Option Addr} {L : List PairV} (h : OwnVG w base (.slice a n cap) L) : ∀ (i : Nat) (p : PairV), L[i]? = some p → ∃ b off, a = some ⟨b, off, none⟩ ∧ base ≤ b := by
  intro i p hi
  have h' : w.ownsRow base 50 2 (.slice a n cap) L.length (cellsQ L) := h
  rcases h'.2 with ⟨_, h0⟩ | ⟨g, cap, cur, e, hb, _⟩
  · have : L = [] := List.eq_nil_of_length_eq_zero h0
    rw [this] at hi; simp at hi
  · injection e with e1 e2 e3
    exact ⟨g, 0, e1, hb⟩
theorem OwnVG.row {w : World} {base n cap : Nat} {a : Option Addr} {L : List PairV} (h : OwnVG w base (.slice a n cap) L) (hok : ∀ p, p ∈ L → okP p) : Pairs w a L := by
  obtain ⟨a', c', e, hP⟩ := h.pairs hok
  injection e with e1 e2 e3
  rw [e1]; exact hP
end Go.Proofs.YtfmlkohijkalbaaGreat
