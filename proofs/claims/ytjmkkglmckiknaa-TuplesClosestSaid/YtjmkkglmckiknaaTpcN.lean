/-
  Walks: the landed package tuples: lay, Merge.
-/
import Derived.Test.YtjmkkglmckiknaaTpcJ
import Derived.Test.YtjmkkglmckiknaaTpcL
import Derived.Laws.MakeOwn
namespace Go.Proofs.Ytjmkkglmckiknaa
set_option linter.unusedVariables false
set_option linter.unusedSimpArgs false
open Go.RowKit

/-- How the row that both are laid into lies. -/
structure LayW (w0 w wr : World) (g off capB nB : Nat) (C : List TupV) : Prop where
  slab : SlabT wr (some ⟨g, off, none⟩) capB C
  len : C.length = nB
  below : Below w0.heap.size w0 wr
  grown : w.grownBy wr (some g)
theorem LayW.call {w0 w wr w' : World} {g off capB nB : Nat} {C : List TupV} (h : LayW w0 w wr g off capB nB C) (hb : Below wr.heap.size wr w') : LayW w0 w w' g off capB nB C :=
  ⟨h.slab.call hb, h.len, h.below.trans (hb.mono h.below.size), grown_callT h.grown hb⟩
theorem LayW.gl {w0 w wr : World} {g off capB nB : Nat} {C : List TupV} (h : LayW w0 w wr g off capB nB C) : g < wr.heap.size := h.slab.lt rfl
/-- A block that was made since is written. -/
theorem LayW.putB {w0 w wr : World} {g off capB nB B o : Nat} {C : List TupV} {v : Value} (h : LayW w0 w wr g off capB nB C) (hB : w.heap.size ≤ B) (hB0 : w0.heap.size ≤ B) (hg : B ≠ g) : LayW w0 w (wr.setCell ⟨B, o, none⟩ v) g off capB nB C := by
  have hk : ∀ k, k ≠ B → (wr.setCell ⟨B, o, none⟩ v).heap[k]? = wr.heap[k]? := fun k hk => Below.heap_setCell wr _ _ k hk
  refine ⟨h.slab.keep fun k hk' => hk k ?_, h.len, h.below.setCell (p := ⟨B, o, none⟩) hB0 _, ⟨h.grown.os, h.grown.tape, h.grown.output, Nat.le_trans h.grown.size (by simp [World.setCell]), fun k hkw hne => (hk k (by omega)).trans (h.grown.block k hkw hne)⟩⟩
  cases hk'
  exact fun e => hg e.symm
/-- A tuple is laid. -/
theorem LayW.put3 {w0 w wr : World} {g off capB nB q : Nat} {C : List TupV} {p : TupV} (h : LayW w0 w wr g off capB nB C) (hg : w0.heap.size ≤ g) (hq : q < nB) (ok : okTu p) :
    LayW w0 w (wr.setCells g (off + q * 3) [.int .i64 p.x, .int .u64 p.st, .int .u64 p.sl]) g off capB nB (C.take q ++ p :: C.drop (q + 1)) := by
  have hx : C[q]? = some (C[q]'(by rw [h.len]; omega)) := List.getElem?_eq_getElem _
  generalize C[q]'(by rw [h.len]; omega) = z at hx
  have hC : C = C.take q ++ z :: C.drop (q + 1) := by rw [← drop_is hx, List.take_append_drop]
  have hl : (C.take q).length = q := by rw [List.length_take, h.len]; omega
  have hs := h.slab
  rw [hC] at hs
  have hlen := congrArg List.length hC
  rw [h.len, List.length_append, List.length_cons, hl] at hlen
  have e : wr.setCells g (off + q * 3) [.int .i64 p.x, .int .u64 p.st, .int .u64 p.sl] = ((wr.setCell ⟨g, off + q * 3, none⟩ (.int .i64 p.x)).setCell ⟨g, off + q * 3 + 1, none⟩ (.int .u64 p.st)).setCell ⟨g, off + q * 3 + 2, none⟩ (.int .u64 p.sl) := rfl
  refine ⟨hs.put3 hl ok, by rw [List.length_append, List.length_cons, hl]; omega, ?_, ?_⟩
  · rw [e]
    exact ((h.below.setCell (p := ⟨g, off + q * 3, none⟩) hg _).setCell (p := ⟨g, off + q * 3 + 1, none⟩) hg _).setCell (p := ⟨g, off + q * 3 + 2, none⟩) hg _
  · rw [e]
    exact grown_transT h.grown (grown_transT (grown_transT (grown_put1 _ _ _ _) (grown_put1 _ _ _ _)) (grown_put1 _ _ _ _))
theorem LayW.free {w0 w wr : World} {g off capB nB : Nat} {C : List TupV} (h : LayW w0 w wr g off capB nB C) (o : Nat) : wr.frozen? ⟨g, o, none⟩ = false := by
  rcases h.slab.blk with ⟨e, _⟩ | ⟨g', off', cs, e, hb⟩
  · cases e
  · obtain ⟨rfl, rfl, _⟩ := Addr.mk.inj (Option.some.inj e)
    exact free8T hb _
/-- The cells of one that is laid over. -/
theorem LayW.cells {w0 w wr : World} {g off capB nB q : Nat} {C : List TupV} (h : LayW w0 w wr g off capB nB C) (hq : q < nB) : ∃ x y z, wr.cell? ⟨g, off + q * 3, none⟩ = some x ∧ wr.cell? ⟨g, off + q * 3 + 1, none⟩ = some y ∧ wr.cell? ⟨g, off + q * 3 + 2, none⟩ = some z := by
  have hx : C[q]? = some (C[q]'(by rw [h.len]; omega)) := List.getElem?_eq_getElem _
  obtain ⟨b, o, e, _, c0, c1, c2⟩ := h.slab.pairs.at_ _ _ hx
  obtain ⟨rfl, rfl, _⟩ := Addr.mk.inj (Option.some.inj e)
  exact ⟨_, _, _, c0, c1, c2⟩
/-- What has been laid is laid as merged. -/
def LaidI (same : Bool) (L M R C0 C : List TupV) (i : Nat) : Prop := ∀ m, (C0[m]? = R[m]? ∨ ∃ j p, j < i ∧ L[j]? = some p ∧ m = layI same M j p) → C[m]? = R[m]?
theorem LaidI.zero (same : Bool) (L M R C0 : List TupV) : LaidI same L M R C0 C0 0 := fun m h => by
  rcases h with h | ⟨j, p, hj, _⟩
  · exact h
  · exact absurd hj (Nat.not_lt_zero _)
theorem LaidI.step {same : Bool} {L M R C0 C : List TupV} {i : Nat} {p : TupV} (h : LaidI same L M R C0 C i) (hp : L[i]? = some p) (hq : layI same M i p < C.length) (hR : R[layI same M i p]? = some (layV same M p)) :
    LaidI same L M R C0 (C.take (layI same M i p) ++ layV same M p :: C.drop (layI same M i p + 1)) (i + 1) := by
  intro m hm
  generalize hqe : layI same M i p = q at *
  have hl : (C.take q).length = q := by rw [List.length_take]; omega
  by_cases e : m = q
  · subst e
    rw [List.getElem?_append_right (by omega), hl, Nat.sub_self, hR]
    rfl
  · have hC : (C.take q ++ layV same M p :: C.drop (q + 1))[m]? = C[m]? := by
      rcases Nat.lt_or_ge m q with h1 | h1
      · rw [List.getElem?_append_left (by omega), List.getElem?_take_of_lt h1]
      · rw [List.getElem?_append_right (by omega), hl]
        obtain ⟨t, ht⟩ : ∃ t, m - q = t + 1 := ⟨m - q - 1, by omega⟩
        rw [ht, List.getElem?_cons_succ, List.getElem?_drop, show q + 1 + t = m by omega]
    rw [hC]
    refine h m ?_
    rcases hm with hm | ⟨j, p', hj, hjp, hjm⟩
    · exact Or.inl hm
    · rcases Nat.lt_or_ge j i with h1 | h1
      · exact Or.inr ⟨j, p', h1, hjp, hjm⟩
      · have : j = i := by omega
        subst this
        rw [hp] at hjp
        rw [← Option.some.inj hjp, hqe] at hjm
        exact absurd hjm e
theorem BoxT.grown {w w' : World} {X Z g : Nat} {A : Option Addr} {n cap : Nat} {same : Bool} (h : BoxT w X Z A n cap same) (hX : X ≠ g) (hZ : Z ≠ g) (hg : w.grownBy w' (some g)) : BoxT w' X Z A n cap same :=
  ⟨hg.cell h.cX (fun e => hX (Option.some.inj e)), hg.cell h.cZ (fun e => hZ (Option.some.inj e))⟩

set_option maxRecDepth 100000 in
set_option maxHeartbeats 4000000 in
theorem tlay_any (w0 w : World) (g off capB nB X Z n m cap capM : Nat) (A Bb : Option Addr) (L M R C0 : List TupV) (same : Bool) (hw : LayW w0 w w g off capB nB C0) (hg0 : w0.heap.size ≤ g) (hL : Tups w0 A L) (hM : Tups w0 Bb M) (hn : L.length = n) (hm : M.length = m) (hn1 : n ≤ 100) (hm1 : m ≤ 100) (hnB : nB ≤ 200)
    (gL : GoodT L) (gM : GoodT M) (hbx : BoxT w X Z Bb m capM same) (hXg : X ≠ g) (hZg : Z ≠ g) (hR : R.length = nB) (hlay : ∀ i p, L[i]? = some p → R[layI same M i p]? = some (layV same M p)) :
    Calls Try.prog 32 #[.slice (some ⟨g, off, none⟩) nB capB, .slice A n cap, .slice Bb m capM, .func (.func 45) #[] #[.pointer (some ⟨X, 0, none⟩), .pointer (some ⟨Z, 0, none⟩)]] w fun e w' => e = .returned (.tuple #[]) ∧ ∃ C, LayW w0 w w' g off capB nB C ∧ LaidI same L M R C0 C n := by
  have HL := Lib.hid hL
  have HM := Lib.hid hM
  have HN := Lib.hid hn
  have HMN := Lib.hid hm
  have HGL := Lib.hid gL
  have HGM := Lib.hid gM
  have HBX := Lib.hid hbx
  have HLAY := Lib.hid hlay
  have HRL := Lib.hid hR
  have HW := Lib.hid hw
  have HEG : Hid (∀ args w, (callFunc 45 args).run Try.prog w = .ok (.enter 45 args) w) := Lib.hid (enters_of Try.func45 (by kernel_rfl) rfl)
  clear hL hM hn hm gL gM hbx hlay hR hw
  go_enter Try.func32, Try.ntmps32
  go_wp2_with fail
  go_loopw [13] (fun jv wr => ∃ (i : Nat) (C : List TupV), i ≤ n ∧ jv = .int .i64 i ∧ LayW w0 w wr g off capB nB C ∧ LaidI same L M R C0 C i) (fun jv _ => n - (intOf jv).toNat)
  case atStart => exact ⟨0, C0, Nat.zero_le _, rfl, HW.out, LaidI.zero _ _ _ _ _⟩
  case round =>
    obtain ⟨i, C, hi, rfl, hlw, hli⟩ := hrel
    have HLW := Lib.hid hlw
    have HLI := Lib.hid hli
    have hbs := hlw.below.size
    have hgs := hlw.gl
    have hws := hlw.grown.size
    clear hlw hli
    by_cases hlt : i < n
    · have kk : (i : Int) < n := by omega
      have hxk := List.getElem?_eq_getElem (l := L) (i := i) (by rw [HN.out]; exact hlt)
      generalize L[i]'(by rw [HN.out]; exact hlt) = p at hxk
      obtain ⟨px, ps, pl⟩ := p
      obtain ⟨b0, o0, rfl, hbl, c0, c1, c2⟩ := (HL.out.call HLW.out.below).at_ i _ hxk
      obtain ⟨g1, g2, g3, g4, g5⟩ := good_at HGL.out hxk
      have hok := HL.out.ok _ (List.mem_of_getElem? hxk)
      obtain ⟨⟨x0, x1⟩, ⟨s0, s1⟩, sl0, sl1⟩ := hok
      simp only at c0 c1 c2 g1 g2 g3 g4 x0 x1 s0 s1 sl0 sl1
      obtain ⟨k, hk⟩ : ∃ k, fromT same px M = k := ⟨_, rfl⟩
      have hkm : k ≤ m := by rw [← hk, ← HMN.out]; exact from_le _ _ _
      obtain ⟨r, hr⟩ : ∃ r, roomT M k = r := ⟨_, rfl⟩
      obtain ⟨r0, r1⟩ := room_range HGM.out k
      rw [hr] at r0 r1
      obtain ⟨q, hq⟩ : ∃ q, layI same M i ⟨px, ps, pl⟩ = q := ⟨_, rfl⟩
      have hqe : i + k = q := by rw [← hq, ← hk]; rfl
      have hlv : layV same M ⟨px, ps, pl⟩ = ⟨px, ps, pl + r⟩ := by rw [← hr, ← hk]; rfl
      have hRq := HLAY.out i _ hxk
      rw [hq, hlv] at hRq
      have hqn : q < nB := by
        rcases Nat.lt_or_ge q nB with h1 | h1
        · exact h1
        · rw [List.getElem?_eq_none (by rw [HRL.out]; exact h1)] at hRq; cases hRq
      have hst := HLI.out.step hxk (by rw [hq, HLW.out.len]; exact hqn) (by rw [hq, hlv]; exact hRq)
      rw [hq, hlv] at hst
      have HST := Lib.hid hst
      have HW1 := Lib.hid (HLW.out.call ((Below.refl wr.heap.size wr).alloc (Nat.le_refl _) (.cells #[.int .i64 px, .int .u64 ps, .int .u64 pl] 52)))
      have HT1 := Lib.hid (Three.new wr (.int .i64 px) (.int .u64 ps) (.int .u64 pl) 52)
      have HFR := Lib.hid (tfrom_any _ X Z capM m k Bb M px same HMN.out (by omega) ⟨x0, x1⟩ (HM.out.call HW1.out.below) HGM.out.sort (HBX.out.grown hXg hZg HW1.out.grown) hk)
      have HRO := Lib.hid (fun (W : World) (hW : Below w0.heap.size w0 W) => troom_any W Bb capM m k M r (HM.out.call hW) HMN.out hkm (by omega) (room_bd HGM.out) hr)
      have a1 : IntKind.u64.wrap (pl + r) = pl + r := by rw [IntKind.wrap_u64]; omega
      have a2 : IntKind.i64.wrap ((i : Int) + (k : Int)) = (q : Int) := by rw [IntKind.wrap_i64]; omega
      have a3 : (q : Int) < (nB : Int) := by omega
      have heg := HEG.out
      clear hst hxk hk hr hq hqe hlv hRq
      go_wp2_with fail
      refine HFR.out.mono ?_
      rintro e w2 ⟨rfl, hb2⟩
      have HW2 := Lib.hid (HW1.out.call hb2)
      have HT2 := Lib.hid (HT1.out.call hb2)
      clear hb2 heg
      have t2 := HT2.out.c2
      have f2 := HT2.out.f2
      have hz2 := HT2.out.lt
      go_wp2_with fail
      go_region_with (go_at_call 36; refine (HRO.out _ (by first | exact HW2.out.below | exact HW2.out.below.drew)).mono ?_; rintro e w3 ⟨rfl, hb3⟩; have hT3 : Three w3 wr.heap.size (.int .i64 px) (.int .u64 ps) (.int .u64 pl) := (by first | exact HT2.out.call hb3 | exact HT2.out.drew.call hb3); have t3 := hT3.c2; have f3 := hT3.f2)
      all_goals
        have HW3 : Hid (LayW w0 w w3 g off capB nB C) := Lib.hid (by first | exact HW2.out.call hb3 | exact HW2.out.call ((Below.refl _ _).drew.trans hb3))
        have HW4 := Lib.hid (HW3.out.putB (B := wr.heap.size) (o := 2) (v := .int .u64 (pl + r)) hws hbs (by omega))
        have HT4 := Lib.hid (hT3.put2 (.int .u64 (pl + r)))
        clear hb3 t3 f3 t2 f2 hT3
        obtain ⟨w4, hw4⟩ : ∃ w4, w3.setCell ⟨wr.heap.size, 2, none⟩ (.int .u64 (pl + r)) = w4 := ⟨_, rfl⟩
        rw [hw4] at HW4 HT4
        rw [hw4]
        clear hw4
        have e0 := HT4.out.c0
        have e1 := HT4.out.c1
        have e2 := HT4.out.c2
        obtain ⟨_, _, _, y0, y1, y2⟩ := HW4.out.cells hqn
        have f0 := HW4.out.free (off + q * 3)
        have f1 := HW4.out.free (off + q * 3 + 1)
        have f2 := HW4.out.free (off + q * 3 + 2)
        have okq : okTu ⟨px, ps, pl + r⟩ := ⟨⟨x0, x1⟩, ⟨s0, s1⟩, (by omega : 0 ≤ pl + r), (by omega : pl + r < 18446744073709551616)⟩
        have HW5 := Lib.hid (HW4.out.put3 hg0 hqn okq)
        clear okq
        go_wp2_with fail
        go_roundw
        case rel => exact ⟨i + 1, _, by omega, by go_num, HW5.out, HST.out⟩
        case measure => simp [intOf]; omega
    · obtain rfl : i = n := by omega
      have kk : ¬ (i : Int) < i := by omega
      go_wp2_with fail
      first
      | (go_end0; exact ⟨rfl, C, HLW.out, HLI.out⟩)
      | exact bodyPost_ret (results_none rfl _ _ _) rfl ⟨rfl, C, HLW.out, HLI.out⟩

theorem made_tuples (n : Nat) : (madeCells (Value.agg #[.int .i64 0, .int .u64 0, .int .u64 0]).cells (n * 3)).toList = cellsTu (List.replicate n ⟨0, 0, 0⟩) := by
  apply List.ext_getElem?
  intro j
  by_cases hj : j < n * 3
  · have h1 : (List.replicate n (⟨0, 0, 0⟩ : TupV))[j / 3]? = some ⟨0, 0, 0⟩ := by rw [List.getElem?_replicate, if_pos (by omega)]
    obtain ⟨q0, q1, q2⟩ := cellsTu_at _ _ _ h1
    have hm : (madeCells (Value.agg #[.int .i64 0, .int .u64 0, .int .u64 0]).cells (n * 3)).toList[j]? = some ((#[Value.int .i64 0, .int .u64 0, .int .u64 0] : Array Value)[j % 3]!) := by
      unfold madeCells
      rw [Array.getElem?_toList, Array.getElem?_map, Array.getElem?_range, if_pos hj]
      simp [Value.cells]
    rw [hm]
    have h3 : j % 3 = 0 ∨ j % 3 = 1 ∨ j % 3 = 2 := by omega
    rcases h3 with e | e | e
    · rw [e, show j = j / 3 * 3 by omega, q0]; rfl
    · rw [e]; conv => rhs; rw [show j = j / 3 * 3 + 1 by omega]
      rw [q1]; rfl
    · rw [e]; conv => rhs; rw [show j = j / 3 * 3 + 2 by omega]
      rw [q2]; rfl
  · rw [List.getElem?_eq_none (by rw [Array.length_toList, size_madeCells]; omega), List.getElem?_eq_none (by rw [cellsTu_len, List.length_replicate]; omega)]
theorem make_tuples (n : Nat) (hn : n ≤ 100000) (w W : World) (hW : w.alloc (.cells (madeCells (Value.agg #[.int .i64 0, .int .u64 0, .int .u64 0]).cells (n * 3)) 52) = W) :
    (Instr.makeSlice 24 (.int .i64 (n : Int)) (.int .i64 (n : Int))).run Try.prog w = .ok (.slice (some ⟨w.heap.size, 0, none⟩) n n) W := by
  obtain ⟨i0, hi, hz0, hz1, hz2⟩ := info_parts Try.infoOwnTu
  have hr := run_make (P := Try.prog) w 24 52 i0 _ Try.underlying24 hi hz0 .i64 .i64 (n : Int) (n : Int) (by omega) (Int.le_refl _) (by rw [hz2]; omega) (by omega)
  rw [hz1, Int.toNat_natCast] at hr
  rw [← hW]
  exact hr
theorem slab_made (n : Nat) (hn : n ≤ 100000) (w : World) : SlabT (w.alloc (.cells (madeCells (Value.agg #[.int .i64 0, .int .u64 0, .int .u64 0]).cells (n * 3)) 52)) (some ⟨w.heap.size, 0, none⟩) n (List.replicate n ⟨0, 0, 0⟩) := by
  refine slab_of_cellsT (P := []) (R := []) (fun p hp => ?_) (heap_alloc_new w _) rfl (by rw [made_tuples]; simp) (by simp) (by rw [size_madeCells]; omega) (by unfold maxLen; omega)
  rw [(List.mem_replicate.1 hp).2]
  exact ⟨⟨by decide, by decide⟩, ⟨by decide, by decide⟩, by decide, by decide⟩
theorem LayW.rebase {w0 w wr : World} {g off capB nB : Nat} {C : List TupV} (h : LayW w0 w wr g off capB nB C) : LayW w0 wr wr g off capB nB C := ⟨h.slab, h.len, h.below, grown_reflT _ _⟩

set_option maxRecDepth 100000 in
set_option maxHeartbeats 4000000 in
theorem tmerge_any (w : World) (A Bb : Option Addr) (cap cap' : Nat) (L M : List TupV) (hL : Tups w A L) (hM : Tups w Bb M) (gL : GoodT L) (gM : GoodT M) (hs : sumT L + sumT M ≤ 9223372036854775807) (hl : L.length ≤ 100) (hl' : M.length ≤ 100) :
    Calls Try.prog 17 #[.slice A L.length cap, .slice Bb M.length cap'] w fun e w' => ∃ v', e = .returned v' ∧ OwnTu w' w.heap.size v' (mergeT L M) ∧ Below w.heap.size w w' := by
  obtain ⟨n, hn⟩ : ∃ n, L.length = n := ⟨_, rfl⟩
  obtain ⟨m, hm⟩ : ∃ m, M.length = m := ⟨_, rfl⟩
  have sL := gL.sort
  have sM := gM.sort
  rw [hn] at hl ⊢
  rw [hm] at hl' ⊢
  have hlen : (mergeT L M).length = n + m := by rw [mergeT_len, hn, hm]
  obtain ⟨N, hN⟩ : ∃ N, n + m = N := ⟨_, rfl⟩
  rw [hN] at hlen
  obtain ⟨W1, hW1⟩ : ∃ W1, w.alloc (.cells (madeCells (Value.agg #[.int .i64 0, .int .u64 0, .int .u64 0]).cells (N * 3)) 52) = W1 := ⟨_, rfl⟩
  have hmk := make_tuples N (by omega) w W1 hW1
  have hb1 : Below w.heap.size w W1 := by rw [← hW1]; exact (Below.refl _ _).alloc (Nat.le_refl _) _
  have hsz : w.heap.size < W1.heap.size := by rw [← hW1]; simp
  have hLW1 : LayW w W1 W1 w.heap.size 0 N N (List.replicate N ⟨0, 0, 0⟩) := ⟨by rw [← hW1]; exact slab_made N (by omega) w, by simp, hb1, grown_reflT _ _⟩
  have HW1 := Lib.hid hLW1
  have HBA := Lib.hid (tbehind_any W1 Bb m cap' true)
  have HBB := Lib.hid (fun W => tbehind_any W A n cap false)
  have HL1 := Lib.hid (fun (W : World) (hW : LayW w W W w.heap.size 0 N N (List.replicate N ⟨0, 0, 0⟩)) (hX : BoxT W W1.heap.size (W1.heap.size + 1) Bb m cap' true) =>
    tlay_any w W w.heap.size 0 N N W1.heap.size (W1.heap.size + 1) n m cap cap' A Bb L M (mergeT L M) (List.replicate N ⟨0, 0, 0⟩) true hW (Nat.le_refl _) hL hM hn hm hl hl' (by omega) gL gM hX (by omega) (by omega) hlen (fun i p hp => lay_a sL sM hp))
  have HL2 := Lib.hid (fun (W W3 : World) (C1 : List TupV) (h3 : w.heap.size < W3.heap.size) (hW : LayW w W W w.heap.size 0 N N C1) (hX : BoxT W W3.heap.size (W3.heap.size + 1) A n cap false) =>
    tlay_any w W w.heap.size 0 N N W3.heap.size (W3.heap.size + 1) m n cap' cap Bb A M L (mergeT L M) C1 false hW (Nat.le_refl _) hM hL hm hn hl' hl (by omega) gM gL hX (by omega) (by omega) hlen (fun i p hp => lay_b sL sM hp))
  have HALL : Hid (∀ C1 C2, C2.length = N → LaidI true L M (mergeT L M) (List.replicate N ⟨0, 0, 0⟩) C1 n → LaidI false M L (mergeT L M) C1 C2 m → C2 = mergeT L M) := Lib.hid fun C1 C2 hc h1 h2 => by
    refine lay_all sL sM (by rw [hc, hn, hm, hN]) (fun i p hp => h2 _ (Or.inl (h1 _ (Or.inr ⟨i, p, ?_, hp, rfl⟩)))) (fun i p hp => h2 _ (Or.inr ⟨i, p, ?_, hp, rfl⟩))
    · rcases Nat.lt_or_ge i L.length with h | h
      · omega
      · rw [List.getElem?_eq_none h] at hp; cases hp
    · rcases Nat.lt_or_ge i M.length with h | h
      · omega
      · rw [List.getElem?_eq_none h] at hp; cases hp
  have a1 : IntKind.i64.wrap ((n : Int) + (m : Int)) = (N : Int) := by rw [IntKind.wrap_i64]; omega
  have HN := Lib.hid hN
  generalize mergeT L M = R at *
  clear hL hM gL gM hs hn hm hl hl' sL sM hlen hN hb1 hLW1 hW1
  go_enter Try.func17, Try.ntmps17
  go_wp2_with fail
  refine HBA.out.mono ?_
  rintro e w2 ⟨rfl, hX2, hb2⟩
  have HX2 := Lib.hid hX2
  have HW2 := Lib.hid ((HW1.out.call hb2).rebase)
  clear hX2 hb2
  go_wp2_with fail
  refine (HL1.out w2 HW2.out HX2.out).mono ?_
  rintro e w3 ⟨rfl, C1, hW3, hI3⟩
  have HW3 := Lib.hid hW3
  have HI3 := Lib.hid hI3
  have hz3 := hW3.gl
  clear hW3 hI3
  go_wp2_with fail
  refine (HBB.out w3).mono ?_
  rintro e w4 ⟨rfl, hX4, hb4⟩
  have HX4 := Lib.hid hX4
  have HW4 := Lib.hid ((HW3.out.call hb4).rebase)
  clear hX4 hb4
  go_wp2_with fail
  refine (HL2.out w4 w3 C1 hz3 HW4.out HX4.out).mono ?_
  rintro e w5 ⟨rfl, C2, hW5, hI5⟩
  have hC2 := HALL.out C1 C2 hW5.len HI3.out hI5
  have hown := own_of_slabT (base := w.heap.size) hW5.slab (Nat.le_refl _)
  rw [hW5.len, hC2] at hown
  have HF := Lib.hid (⟨hown, hW5.below⟩ : OwnTu w5 w.heap.size (.slice (some ⟨w.heap.size, 0, none⟩) N N) R ∧ Below w.heap.size w w5)
  clear hown hC2 hW5 hI5
  go_wp2_with fail
  go_ret
  exact ⟨_, rfl, HF.out⟩
end Go.Proofs.Ytjmkkglmckiknaa
