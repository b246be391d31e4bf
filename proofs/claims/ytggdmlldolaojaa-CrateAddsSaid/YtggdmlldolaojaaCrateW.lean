/-
  Walks: a crate's Add.
-/
import Derived.Test.YtggdmlldolaojaaCrateR
namespace Go.Proofs.Ytggdmlldolaojaa
set_option linter.unusedVariables false
set_option linter.unusedSimpArgs false
open Go.RowKit

/-- A row's ends, if there were one more. -/
def lowE (L : List PairV) (i : Int) : Int := if L = [] then i else min (headP L) i
def highE (L : List PairV) (i : Int) : Int := if L = [] then i else max (lastP L) i
theorem lowE_add {L : List PairV} {i c : Int} (h : Crt L) (hc : 0 < c) (hs : c ≤ 9223372036854775807 - sumP L) : headP (addP L i c) = lowE L i ∧ lastP (addP L i c) = highE L i := by
  have hcn := h.cnt i
  unfold lowE highE
  by_cases e : L = []
  · subst e
    rw [add_nil hc]
    exact ⟨rfl, rfl⟩
  · rw [if_neg e, if_neg e]
    exact ⟨add_head h.good e (by omega) (by omega), add_last h.good e (by omega) (by omega)⟩
theorem ends_i64 {L : List PairV} {i : Int} (h : Crt L) (hi : I64 i) : I64 (lowE L i) ∧ I64 (highE L i) ∧ lowE L i ≤ i ∧ i ≤ highE L i := by
  have h1 := head_i64 h.ok
  have h2 := last_i64 h.ok
  unfold I64 at *
  unfold lowE highE
  split <;> omega
theorem reach_crx (w : World) (B : Nat) (S : Nat → Prop) (L : List PairV) (i : Int) (h : CrX w B S L) (hi : I64 i) :
    Calls Try.prog 23 #[.pointer (some ⟨B, 0, none⟩), .int .i64 i] w fun e w' => e = .returned (.tuple #[.int .i64 (lowE L i), .int .i64 (highE L i)]) ∧ ∃ m, w' = w.drewN m := by
  obtain ⟨hc, ⟨rfl, h2, h3⟩ | ⟨h1, G, n, h2, h3, h4, h5⟩⟩ := h
  · exact (reach_void w B i hi h2.c3).mono fun e w' ⟨h1, h2⟩ => ⟨h1, 0, h2.symm⟩
  · exact reach_lay w B _ _ _ i _ _ h2.c0 h2.c1 h2.c3 (sum_pos hc.good h1) (head_i64 hc.ok) (last_i64 hc.ok) hi (by unfold lowE; rw [if_neg h1]) (by unfold highE; rw [if_neg h1])
theorem widen_crx (w : World) (B : Nat) (S : Nat → Prop) (L : List PairV) (i : Int) (h : CrX w B S L) (hi : I64 i) (hf : highE L i - lowE L i ≤ 4095) :
    Calls Try.prog 26 #[.pointer (some ⟨B, 0, none⟩), .int .i64 (lowE L i), .int .i64 (highE L i)] w fun e w' => (∃ v, e = .returned v) ∧
      ∃ (G n : Nat), Lay w' B G (lowE L i) (highE L i) n L (sumP L) ∧ B ≠ G ∧ (n : Int) = highE L i - lowE L i + 1 ∧ Keeps S w w' ∧ (S G ∨ w.heap.size ≤ G) ∧ S B := by
  obtain ⟨hc, ⟨rfl, h2, h3⟩ | ⟨h1, G, n, h2, h3, h4, h5⟩⟩ := h
  · have e1 : lowE [] i = i := rfl
    have e2 : highE [] i = i := rfl
    rw [e1, e2]
    have hlt := lt_of_block h2
    refine (widen_void w B i i 1 hi hi (by omega) (by omega) (by omega) h2).mono ?_
    rintro e w' ⟨hv, hl, hk⟩
    exact ⟨hv, w.heap.size, 1, hl, by omega, by omega, ⟨hk.os, hk.tape, hk.output, hk.size, fun k h1 h2 => hk.block k h1 (fun e => h2 ((h3 k).2 e))⟩, Or.inr (Nat.le_refl _), (h3 B).2 rfl⟩
  · have e1 : lowE L i = min (headP L) i := by unfold lowE; rw [if_neg h1]
    have e2 : highE L i = max (lastP L) i := by unfold highE; rw [if_neg h1]
    have hd := head_i64 hc.ok
    have hl := last_i64 hc.ok
    have hle := good_ends hc.good
    have hsp : spreadP L = lastP L - headP L := rfl
    rw [hsp] at h4
    rw [e1, e2] at hf
    have I1 : I64 (min (headP L) i) := by unfold I64 at *; omega
    have I2 : I64 (max (lastP L) i) := by unfold I64 at *; omega
    rw [e1, e2]
    by_cases hs : max (lastP L) i - min (headP L) i = lastP L - headP L
    · have e3 : min (headP L) i = headP L := by omega
      have e4 : max (lastP L) i = lastP L := by omega
      rw [e3, e4]
      refine (widen_same w B (headP L) (lastP L) n _ hd hl (by omega) (by omega) h2.c2).mono ?_
      rintro e w' ⟨hv, rfl⟩
      exact ⟨hv, G, n, h2, h3, by omega, Keeps.refl _ _, Or.inl ((h5 G).2 (Or.inr rfl)), (h5 B).2 (Or.inl rfl)⟩
    · obtain ⟨n', hn'⟩ : ∃ n' : Nat, (n' : Int) = max (lastP L) i - min (headP L) i + 1 := ⟨(max (lastP L) i - min (headP L) i + 1).toNat, by omega⟩
      refine (widen_lay w B G (headP L) (lastP L) (sumP L) (min (headP L) i) (max (lastP L) i) n n' L h2 hd I1 I2 hn' (by omega) (by omega) (by omega) (by omega) (by omega) (sum_pos hc.good h1) h3 (fun j hj => count_out hc.good (by omega))).mono ?_
      rintro e w' ⟨hv, hl, hk⟩
      have hlt := lt_of_block h2.b
      exact ⟨hv, w.heap.size, n', hl, by omega, hn', ⟨hk.os, hk.tape, hk.output, hk.size, fun k h1 h2 => hk.block k h1 (fun e => h2 ((h5 k).2 (Or.inl e)))⟩, Or.inr (Nat.le_refl _), (h5 B).2 (Or.inl rfl)⟩
theorem two_new (w : World) (m : Nat) (x y : Value) (t : TypeId) : ((w.drewN m).alloc (.cells #[x, y] t)).cell? ⟨w.heap.size, 0, none⟩ = some x ∧ ((w.drewN m).alloc (.cells #[x, y] t)).cell? ⟨w.heap.size, 1, none⟩ = some y := by
  have h : ((w.drewN m).alloc (.cells #[x, y] t)).heap[w.heap.size]? = some (.cells #[x, y] t (0, 0)) := heap_alloc_new (w.drewN m) _
  exact ⟨by rw [Joins.cell_of_block h]; rfl, by rw [Joins.cell_of_block h]; rfl⟩
/-- Behind the two stores of an addition. -/
theorem lay_add {w : World} {B G : Nat} {a z t t' i c : Int} {n k : Nat} {L : List PairV} (h : Lay w B G a z n L t) (hBG : B ≠ G) (h0 : 0 ≤ countP L i + c) (hk : i = a + k) :
    Lay ((w.setCell ⟨G, k, none⟩ (.int .u64 (countP L i + c))).setCell ⟨B, 3, none⟩ (.int .u64 t')) B G a z n (addP L i c) t' := by
  have h1 : (w.setCell ⟨G, k, none⟩ (.int .u64 (countP L i + c))).heap[B]? = w.heap[B]? := Below.heap_setCell _ _ _ _ hBG
  refine ⟨set_cells (h1.trans h.b) 3 _, ?_⟩
  rw [Below.heap_setCell _ _ _ _ (by show G ≠ B; exact fun e => hBG e.symm), set_cells h.g k _, List.setIfInBounds_toArray, tabC_add h0 hk]

set_option maxRecDepth 100000 in
set_option maxHeartbeats 2000000 in
theorem cadd_any (w : World) (B : Nat) (S : Nat → Prop) (L : List PairV) (i c : Int) (h : CrX w B S L) (hi : I64 i) (hc : Word c) :
    Calls Try.prog 10 #[.pointer (some ⟨B, 0, none⟩), .int .i64 i, .int .u64 c] w fun e w' => ∃ S', e = .returned (.int .i64 (crErr L i c)) ∧ CrX w' B S' (crRow L i c) ∧ Keeps S w w' ∧ (∀ k, S' k → S k ∨ w.heap.size ≤ k) := by
  have hcrt := h.1
  obtain ⟨c3, hsw⟩ := crx_sum h
  have hcnt := hcrt.cnt i
  have hcases := crErr_cases (L := L) (i := i) hc
  obtain ⟨I1, I2, hlo, hhi⟩ := ends_i64 hcrt hi
  have HAD : Hid (0 < c → c ≤ 9223372036854775807 - sumP L → headP (addP L i c) = lowE L i ∧ lastP (addP L i c) = highE L i) := Lib.hid fun a b => lowE_add hcrt a b
  have HX := Lib.hid h
  have HR : Hid (Calls Try.prog 23 #[.pointer (some ⟨B, 0, none⟩), .int .i64 i] w fun e w' => e = .returned (.tuple #[.int .i64 (lowE L i), .int .i64 (highE L i)]) ∧ ∃ m, w' = w.drewN m) := Lib.hid (reach_crx w B S L i h hi)
  have HWD : Hid (highE L i - lowE L i ≤ 4095 → ∀ w', CrX w' B S L → Calls Try.prog 26 #[.pointer (some ⟨B, 0, none⟩), .int .i64 (lowE L i), .int .i64 (highE L i)] w' fun e w'' => (∃ v, e = .returned v) ∧
      ∃ (G n : Nat), Lay w'' B G (lowE L i) (highE L i) n L (sumP L) ∧ B ≠ G ∧ (n : Int) = highE L i - lowE L i + 1 ∧ Keeps S w' w'' ∧ (S G ∨ w'.heap.size ≤ G) ∧ S B) := Lib.hid fun hf w' h' => widen_crx w' B S L i h' hi hf
  have HCA := Lib.hid (crt_add hcrt hi hc)
  obtain ⟨t, ht⟩ : ∃ t, sumP L = t := ⟨_, rfl⟩
  obtain ⟨x, hx⟩ : ∃ x, countP L i = x := ⟨_, rfl⟩
  have HT := Lib.hid ht
  have HXC := Lib.hid hx
  rw [ht] at c3 hsw hcnt hcases HAD HWD
  rw [hx] at hcnt
  generalize hA : lowE L i = a at *
  generalize hZ : highE L i = z at *
  obtain ⟨a0, a1⟩ := I1
  obtain ⟨z0, z1⟩ := I2
  obtain ⟨t0, t1⟩ := hsw
  obtain ⟨w0, w1⟩ := hc
  obtain ⟨i0, i1⟩ := hi
  clear h ht hx hA hZ
  rcases hcases with ⟨rfl, e⟩ | ⟨hc0, hfull, e⟩ | ⟨hc0, hfit, hfar, e⟩ | ⟨hc0, hfit, hfar, e⟩
  · have E := Lib.hid e
    have HRW : Hid (crRow L i 0 = L) := Lib.hid (by unfold crRow; rw [e]; rfl)
    clear e
    go_enter Try.func10, Try.ntmps10
    go_wp2_with fail
    go_ret
    exact ⟨S, ret_int E.out.symm, by rw [HRW.out]; exact HX.out, Keeps.refl _ _, fun k hk => Or.inl hk⟩
  · have E := Lib.hid e
    have HRW : Hid (crRow L i c = L) := Lib.hid (by unfold crRow; rw [e]; rfl)
    have c00 : (c == 0) = false := by simp; omega
    have P1 : Hid (plus2B t c = false) := Lib.hid (by unfold plus2B; apply decide_eq_false; omega)
    have P2 : Hid (plus2Q t c = 0) := Lib.hid (by unfold plus2Q; rw [P1.out]; rfl)
    clear e
    go_enter Try.func10, Try.ntmps10
    go_wp2_with fail
    refine HR.out.mono ?_
    rintro e w2 ⟨rfl, m, rfl⟩
    go_wp2_with fail
    refine (plus_two t c 0 false _ _ _ ⟨by omega, by omega⟩ ⟨by omega, by omega⟩ (two_new w m _ _ _).1 (two_new w m _ _ _).2 P2.out P1.out).mono ?_
    rintro e w3 ⟨rfl, rfl⟩
    go_wp2_with fail
    go_ret
    have hb : Below w.heap.size w ((w.drewN m).alloc (.cells #[.int .u64 t, .int .u64 c] 29)) := (below_drewN (Below.refl _ _) m).alloc (Nat.le_refl _) _
    exact ⟨S, ret_int E.out.symm, by rw [HRW.out]; exact crx_keep _ _ _ _ _ HX.out (fun k hk => hb.block k (crx_lt _ _ _ _ HX.out k hk)), Keeps.of_below hb, fun k hk => Or.inl hk⟩
  · have E := Lib.hid e
    have HRW : Hid (crRow L i c = L) := Lib.hid (by unfold crRow; rw [e]; rfl)
    have c00 : (c == 0) = false := by simp; omega
    have P1 : Hid (plus2B t c = true) := Lib.hid (by unfold plus2B; apply decide_eq_true; omega)
    have P2 : Hid (plus2Q t c = t + c) := Lib.hid (by unfold plus2Q; rw [P1.out]; rfl)
    have HF : 4095 < z - a := by
      have h1 := HAD.out hc0 hfit
      unfold spreadP at hfar
      rw [h1.1, h1.2] at hfar
      exact hfar
    have HG : Hid (gap a z = z - a) := Lib.hid (by unfold gap; split <;> omega)
    clear e hfar
    go_enter Try.func10, Try.ntmps10
    go_wp2_with fail
    refine HR.out.mono ?_
    rintro e w2 ⟨rfl, m, rfl⟩
    go_wp2_with fail
    refine (plus_two t c (t + c) true _ _ _ ⟨by omega, by omega⟩ ⟨by omega, by omega⟩ (two_new w m _ _ _).1 (two_new w m _ _ _).2 P2.out P1.out).mono ?_
    rintro e w3 ⟨rfl, rfl⟩
    go_wp2_with fail
    refine (gap_any a z ⟨a0, a1⟩ ⟨z0, z1⟩ _).mono ?_
    rintro e w4 ⟨rfl, rfl⟩
    rw [HG.out]
    go_wp2_with fail
    go_ret
    have hb : Below w.heap.size w ((w.drewN m).alloc (.cells #[.int .u64 t, .int .u64 c] 29)) := (below_drewN (Below.refl _ _) m).alloc (Nat.le_refl _) _
    exact ⟨S, ret_int E.out.symm, by rw [HRW.out]; exact crx_keep _ _ _ _ _ HX.out (fun k hk => hb.block k (crx_lt _ _ _ _ HX.out k hk)), Keeps.of_below hb, fun k hk => Or.inl hk⟩
  · have E := Lib.hid e
    have HRW : Hid (crRow L i c = addP L i c) := Lib.hid (by unfold crRow; rw [if_pos e])
    have c00 : (c == 0) = false := by simp; omega
    have P1 : Hid (plus2B t c = true) := Lib.hid (by unfold plus2B; apply decide_eq_true; omega)
    have P2 : Hid (plus2Q t c = t + c) := Lib.hid (by unfold plus2Q; rw [P1.out]; rfl)
    have h1 := HAD.out hc0 hfit
    have HSP : Hid (spreadP (addP L i c) = z - a) := Lib.hid (by unfold spreadP; rw [h1.1, h1.2])
    have HF : ¬ 4096 ≤ z - a := by
      rw [HSP.out] at hfar
      omega
    have HG : Hid (gap a z = z - a) := Lib.hid (by unfold gap; split <;> omega)
    have HAE := Lib.hid h1
    have HSM : Hid (sumP (addP L i c) = t + c) := Lib.hid (by rw [add_sum (by rw [HXC.out]; omega), HT.out])
    have HNE : Hid (addP L i c ≠ []) := Lib.hid (fun e => by have := add_pos (L := L) (i := i) (c := c) (by rw [HXC.out]; omega) hc0; rw [e] at this; cases this)
    clear e hfar h1
    go_enter Try.func10, Try.ntmps10
    go_wp2_with fail
    refine HR.out.mono ?_
    rintro e w2 ⟨rfl, m, rfl⟩
    go_wp2_with fail
    refine (plus_two t c (t + c) true _ _ _ ⟨by omega, by omega⟩ ⟨by omega, by omega⟩ (two_new w m _ _ _).1 (two_new w m _ _ _).2 P2.out P1.out).mono ?_
    rintro e w3 ⟨rfl, rfl⟩
    go_wp2_with fail
    refine (gap_any a z ⟨a0, a1⟩ ⟨z0, z1⟩ _).mono ?_
    rintro e w4 ⟨rfl, rfl⟩
    rw [HG.out]
    go_wp2_with fail
    obtain ⟨w5, hw5⟩ : ∃ w5, (w.drewN m).alloc (.cells #[.int .u64 t, .int .u64 c] 29) = w5 := ⟨_, rfl⟩
    have hb : Below w.heap.size w w5 := by rw [← hw5]; exact (below_drewN (Below.refl _ _) m).alloc (Nat.le_refl _) _
    rw [hw5]
    clear hw5
    have HB5 := Lib.hid hb
    clear hb
    refine (HWD.out (by omega) w5 (crx_keep _ _ _ _ _ HX.out (fun k hk => HB5.out.block k (crx_lt _ _ _ _ HX.out k hk)))).mono ?_
    rintro e w6 ⟨⟨v, rfl⟩, G, n, hl, hBG, hn, hkp, hSG, hSB⟩
    obtain ⟨k, hk⟩ : ∃ k : Nat, i = a + k := ⟨(i - a).toNat, by omega⟩
    have hkn : k < n := by omega
    have hkn2 : (k : Int) < n := by omega
    have e1 : i - a = (k : Int) := by omega
    have d2 := hl.c2
    have dg := hl.cg hkn
    rw [← hk, HXC.out] at dg
    have d3 := hl.c3
    have hGB : ¬ G = B := fun e => hBG e.symm
    have fg := hl.fg k
    have fb := hl.fb 3
    have hK := Lib.hid hk
    have HL := Lib.hid hl
    have HN := Lib.hid hn
    have HKP := Lib.hid hkp
    have hxc : x + c < 18446744073709551616 := by omega
    have hxc0 : 0 ≤ x + c := by omega
    have hx0 : 0 ≤ x := by omega
    have HLX : Hid (Lay ((w6.setCell ⟨G, k, none⟩ (.int .u64 (x + c))).setCell ⟨B, 3, none⟩ (.int .u64 (t + c))) B G a z n (addP L i c) (t + c)) := Lib.hid (by
      have := lay_add (i := i) (c := c) (t' := t + c) hl hBG (by rw [HXC.out]; omega) hk
      rw [HXC.out] at this
      exact this)
    clear hk hl hn hkp hcnt
    go_wp2_with fail
    go_ret
    refine ⟨fun j => j = B ∨ j = G, ret_int E.out.symm, ?_, ?_, ?_⟩
    · rw [HRW.out]
      refine ⟨by have := HCA.out; rw [HRW.out] at this; exact this, Or.inr ⟨HNE.out, G, n, ?_, hBG, by rw [HSP.out, HN.out], fun j => Iff.rfl⟩⟩
      rw [HAE.out.1, HAE.out.2, HSM.out]
      exact HLX.out
    · have h5 := HB5.out
      have h6 := HKP.out
      refine ⟨h6.os.trans h5.os, h6.tape.trans h5.tape, h6.output.trans h5.output, ?_, fun j hj hns => ?_⟩
      · have := Nat.le_trans h5.size h6.size
        simpa [World.setCell] using this
      · have hjB : j ≠ B := fun e => hns (e ▸ hSB)
        have hjG : j ≠ G := fun e => by
          rcases hSG with h | h
          · exact hns (e ▸ h)
          · have := h5.size; omega
        rw [Below.heap_setCell _ _ _ _ hjB, Below.heap_setCell _ _ _ _ hjG, h6.block j (by have := h5.size; omega) hns]
        exact h5.block j hj
    · rintro j (rfl | rfl)
      · exact Or.inl hSB
      · rcases hSG with h | h
        · exact Or.inl h
        · exact Or.inr (Nat.le_trans HB5.out.size h)
end Go.Proofs.Ytggdmlldolaojaa
