/-
  Walks: the law LogskErrors.
-/
import Derived.Test.YtcijflakldggaaaGreatK7
import Derived.Deep.RegionHeld3
namespace Go.Proofs.YtcijflakldggaaaGreat
set_option linter.unusedVariables false
set_option linter.unusedSimpArgs false
open Go.RowKit

theorem rat_neq (a b a' b' : Int) (w : World) : (binOp .neq 24 (.agg #[.int .u64 a, .int .u64 b]) (.agg #[.int .u64 a', .int .u64 b'])).run Tryz.prog w = .ok (.bool (!(a == a' && b == b'))) w := by
  by_cases h1 : a = a'
  · subst h1
    by_cases h2 : b = b'
    · subst h2; simp [go_sem]
    · have : (b == b') = false := by simp [h2]
      simp [go_sem, this]
  · have : (a == a') = false := by simp [h1]
    simp [go_sem, this]
theorem beq_swap (a b : Int) : (a == b) = (b == a) := by
  by_cases h : a = b
  · rw [h]
  · rw [beq_eq_false_iff_ne.2 h, beq_eq_false_iff_ne.2 (fun e => h e.symm)]
theorem RefN.wipe {w : World} {M : Nat} {P : Pt} {s : Bool} {m : Int} {A : List PairV} (h : RefN w M P s m A) : RefN (w.setCell ⟨M, 5, none⟩ (.slice none 0 0)) M P s m [] := by
  obtain ⟨lo, re, dg, a0, cap0, h1, h2, h3⟩ := h.ex
  refine ⟨lo, re, dg, none, 0, ?_, ⟨fun p h => (by cases h), fun i p hp => by simp at hp⟩, ?_⟩
  · cases P with
    | cells u v n =>
      obtain ⟨h0, g, k, c, c', e1, e2, n1, n2, e3, e4⟩ := h1
      exact ⟨h0, g, k, c, c', e1, e2, n1, n2, fun i hi => (setCell_other_heap n1 i).trans (e3 i hi), fun i hi => (setCell_other_heap n2 i).trans (e4 i hi)⟩
    | spans d L T => exact h1
  · rw [Joins.block_setCell h3]; rfl
/-- A sketch, and what it must be, while the law asks: nothing turns that is looked at. -/
structure InvK (w w0 : World) (Bn : BnT) (B C : Nat) (R : Nat → Prop) (M : Nat) (P : Pt) (u v : Int) (s : Bool) (m : Int) (A : List PairV) (n : Nat) (W : World) : Prop where
  ex : ∃ S lo hi, SkV Bn W B C S R P u v s m A lo hi ∧ (∀ k, skB B S k ∨ R k → n ≤ k) ∧ RefK n W M P s m A ∧ n ≤ W.heap.size
  le : w.heap.size ≤ n
  bel : Below w.heap.size w W
  low : ∀ k, k < n → W.heap[k]? = w0.heap[k]?
theorem invk_keeps {Bn : BnT} (D : BinsDoes Bn) {w w0 W W' : World} {B C : Nat} {R : Nat → Prop} {M : Nat} {P : Pt} {u v : Int} {s : Bool} {m : Int} {A : List PairV} {n : Nat} {S S' : Nat → Prop} {lo hi : Int} (h : InvK w w0 Bn B C R M P u v s m A n W) (hS : ∀ k, skB B S k → n ≤ k) (hk : Keeps (skB B S) W W') (hB : SkV Bn W' B C S' R P u v s m A lo hi) (hS' : ∀ k, skB B S' k ∨ R k → n ≤ k) : InvK w w0 Bn B C R M P u v s m A n W' := by
  obtain ⟨S0, _, _, h1, h2, h3, h4⟩ := h.ex
  have hz := hk.size
  exact ⟨⟨S', _, _, hB, hS', h3.past hk hS h4, by omega⟩, h.le, hk.below h.bel (by have := h.le; omega) (fun i hi => by have := hS i hi; have := h.le; omega), fun k hk' => (hk.block k (by omega) (fun x => by have := hS k x; omega)).trans (h.low k hk')⟩
theorem InvK.cell {Bn : BnT} {w w0 W : World} {B C : Nat} {R : Nat → Prop} {M : Nat} {P : Pt} {u v : Int} {s : Bool} {m : Int} {A : List PairV} {n : Nat} (h : InvK w w0 Bn B C R M P u v s m A n W) {b o : Nat} {x : Value} (hb : b < n) (hx : w0.cell? ⟨b, o, none⟩ = some x) : W.cell? ⟨b, o, none⟩ = some x := by rw [cell_same (h.low b hb) o]; exact hx
theorem RefK.mlt {n : Nat} {w : World} {M : Nat} {P : Pt} {s : Bool} {m : Int} {A : List PairV} (h : RefK n w M P s m A) (hn : n ≤ w.heap.size) : M < n := by
  rcases Nat.lt_or_ge M n with h1 | h1
  · exact h1
  · exfalso
    obtain ⟨lo, re, dg, a, cap, _, _, h3⟩ := h.ref.ex
    have h4 := h.stay (w.setCell ⟨M, 3, none⟩ undef) (fun k hk => Below.heap_setCell w _ _ k (by show k ≠ M; omega)) (by simp [World.setCell]; exact hn)
    obtain ⟨_, _, _, _, _, _, _, hc⟩ := h4.cells
    have h5 := hc.c3
    rw [Joins.cell_of_block (Joins.block_setCell h3 _)] at h5
    have h6 : undef = Value.int .i64 (sideI s) := Option.some.inj h5
    cases h6
theorem invk_below {Bn : BnT} (D : BinsDoes Bn) {w w0 W W' : World} {B C : Nat} {R : Nat → Prop} {M : Nat} {P : Pt} {u v : Int} {s : Bool} {m : Int} {A : List PairV} {n : Nat} (h : InvK w w0 Bn B C R M P u v s m A n W) (hb : Below W.heap.size W W') : InvK w w0 Bn B C R M P u v s m A n W' := by
  obtain ⟨S0, _, _, h1, h2, h3, h4⟩ := h.ex
  exact invk_keeps D h (S := S0) (fun k hk => h2 k (Or.inl hk)) (Keeps.of_below hb) (h1.call D hb) h2
theorem binst_no {P : Pt} {s : Bool} {m : Int} {st : St} {x c : Int} (h : binErr st c ≠ 0) : binSt P s m st x c = st := by unfold binSt; rw [if_neg h]
set_option maxHeartbeats 1000000 in
theorem invk_put {Bn : BnT} (D : BinsDoes Bn) {w w0 W : World} {B C : Nat} {R : Nat → Prop} {M : Nat} {P : Pt} {u v : Int} {s : Bool} {m : Int} {A : List PairV} {n : Nat} (h : InvK w w0 Bn B C R M P u v s m A n W) (hP : P.ok) (hf : FineV A) (hl : A.length ≤ 60) (x c E : Int) (hx : I64 x) (hc : Word c) (hE : binErr (stV P s m A) c = E) (h0 : E ≠ 0) :
    Calls Tryz.prog 25 #[.pointer (some ⟨B, 0, none⟩), .int .i64 x, .int .u64 c] W fun e w' => e = .returned (.int .i64 E) ∧ InvK w w0 Bn B C R M P u v s m A n w' := by
  obtain ⟨S0, lo, hi, h1, h2, h3, h4⟩ := h.ex
  have hsl := stv_len hP s m hf (by omega)
  refine (kput_any D h1.x (by omega) (by omega) x c hx hc _ rfl E lo hi hE (if_neg h0) (if_neg h0)).mono ?_
  rintro e w' ⟨S', rfl, hx', hk, hS'⟩
  rw [binst_no (by rw [hE]; exact h0)] at hx'
  refine ⟨rfl, invk_keeps D h (fun k hk => h2 k (Or.inl hk)) hk ⟨hx', h1.e⟩ (fun k hk' => ?_)⟩
  rcases hk' with (rfl | a) | a
  · exact h2 _ (Or.inl (Or.inl rfl))
  · rcases hS' k a with a | a
    · exact h2 k (Or.inl (Or.inr a))
    · omega
  · exact h2 k (Or.inr a)
theorem invk_calls {Bn : BnT} (D : BinsDoes Bn) {w w0 : World} {B C : Nat} {R : Nat → Prop} {M : Nat} {P : Pt} {u v : Int} {s : Bool} {m : Int} {A : List PairV} {n : Nat} (hP : P.ok) (hf : FineV A) (hl : A.length ≤ 60) (m1 : 1 ≤ m) (m2 : m ≤ 4096) (x : Int) (hx : I64 x) :
    (∀ W, InvK w w0 Bn B C R M P u v s m A n W → Calls Tryz.prog 14 #[.pointer (some ⟨B, 0, none⟩), .pointer (some ⟨M, 0, none⟩)] W fun e w' => e = .returned (.bool true) ∧ InvK w w0 Bn B C R M P u v s m A n w') ∧
    (∀ W, InvK w w0 Bn B C R M P u v s m A n W → Calls Tryz.prog 25 #[.pointer (some ⟨B, 0, none⟩), .int .i64 x, .int .u64 0] W fun e w' => e = .returned (.int .i64 1) ∧ InvK w w0 Bn B C R M P u v s m A n w') ∧
    (∀ W, InvK w w0 Bn B C R M P u v s m A n W → Calls Tryz.prog 17 #[.pointer (some ⟨M, 0, none⟩)] W fun e w' => e = .returned (.int .u64 (sumP A)) ∧ InvK w w0 Bn B C R M P u v s m A n w') ∧
    (∀ W, InvK w w0 Bn B C R M P u v s m A n W → Calls Tryz.prog 25 #[.pointer (some ⟨B, 0, none⟩), .int .i64 x, .int .u64 (9223372036854775808 - sumP A)] W fun e w' => e = .returned (.int .i64 6) ∧ InvK w w0 Bn B C R M P u v s m A n w') ∧
    (∀ W, InvK w w0 Bn B C R M P u v s m A n W → Calls Tryz.prog 27 #[.pointer (some ⟨B, 0, none⟩)] W fun e w' => e = .returned (.agg #[.int .u64 u, .int .u64 v, .int .i64 (sideI s), .int .i64 m]) ∧ InvK w w0 Bn B C R M P u v s m A n w') := by
  have hall := stv_all hP s m hf (by omega)
  have hsum := fine_fit hf (by omega)
  have h0 := (fine_sum hf).1
  refine ⟨fun W h => ?_, fun W h => ?_, fun W h => ?_, fun W h => ?_, fun W h => ?_⟩
  · obtain ⟨S0, lo, hi, h1, h2, h3, h4⟩ := h.ex
    exact (same14_any D W B C M S0 R P u v s m A lo hi h1 h3.ref hP hf (by omega) m1 m2).mono fun e w' ⟨he, hb⟩ => ⟨he, invk_below D h hb⟩
  · exact invk_put D h hP hf hl x 0 1 hx ⟨by decide, by decide⟩ (by unfold binErr lwErr; rw [if_pos rfl]) (by decide)
  · obtain ⟨S0, lo, hi, h1, h2, h3, h4⟩ := h.ex
    exact (rtotal13_any W M P s m A (sumP A) h3.ref (by omega) rfl (by omega)).mono fun e w' ⟨he, hb⟩ => ⟨he, invk_below D h hb⟩
  · exact invk_put D h hP hf hl x (9223372036854775808 - sumP A) 6 hx ⟨by omega, by omega⟩ (by unfold binErr lwErr; rw [hall, if_neg (by omega), if_pos (by omega)]) (by decide)
  · obtain ⟨S0, lo, hi, h1, h2, h3, h4⟩ := h.ex
    exact (kconfig_any h1.x.cells).mono fun e w' ⟨he, hb⟩ => ⟨he, invk_below D h hb⟩

set_option maxRecDepth 100000 in
set_option maxHeartbeats 4000000 in
theorem logsk_errors_walk {Bn : BnT} (D : BinsDoes Bn) (NB : BinsNil) (u v sd m : Int) (A : List PairV) (a : Option Addr) (cap : Nat) (pa pb x : Int) (wu : Word u) (wv : Word v) (ws : I64 sd) (wm : I64 m) (hl : A.length ≤ 140737488351232) (wpa : Word pa) (wpb : Word pb) (wx : I64 x) (w : World) (hA : Pairs w a A) :
    Calls Tryz.prog 6 #[.agg #[.int .u64 u, .int .u64 v, .int .i64 sd, .int .i64 m, .slice a A.length cap], .agg #[.int .u64 pa, .int .u64 pb], .int .i64 x] w fun e w' => e = .returned (.bool true) ∧ Below w.heap.size w w' := by
  have HD := Lib.hid D
  have HNB := Lib.hid NB
  obtain ⟨ln, hln⟩ : ∃ ln : Nat, A.length = ln := ⟨_, rfl⟩
  have HBD := Lib.hid (fun W hp => build14_any D W u v sd m A a cap wu wv ws wm hp hl)
  rw [hln] at HBD ⊢
  have HLN := Lib.hid hln
  have HA := Lib.hid hA
  have hcs := casek_new w u v sd m (.slice a ln cap) 27
  have BC := grew_one w (.cells #[.int .u64 u, .int .u64 v, .int .i64 sd, .int .i64 m, .slice a ln cap] 27)
  have hcs := hcs.call (grew_one (w.alloc (.cells #[.int .u64 u, .int .u64 v, .int .i64 sd, .int .i64 m, .slice a ln cap] 27)) (.cells #[.int .u64 pa, .int .u64 pb] 24))
  have Tp := Two.new (w.alloc (.cells #[.int .u64 u, .int .u64 v, .int .i64 sd, .int .i64 m, .slice a ln cap] 27)) (.int .u64 pa) (.int .u64 pb) 24
  have BC := below_new BC (.cells #[.int .u64 pa, .int .u64 pb] 24)
  have hsz : ((w.alloc (.cells #[.int .u64 u, .int .u64 v, .int .i64 sd, .int .i64 m, .slice a ln cap] 27)).alloc (.cells #[.int .u64 pa, .int .u64 pb] 24)).heap.size = w.heap.size + 2 := by simp
  have hsp : (w.alloc (.cells #[.int .u64 u, .int .u64 v, .int .i64 sd, .int .i64 m, .slice a ln cap] 27)).heap.size = w.heap.size + 1 := by simp
  rw [hsp] at Tp
  clear hsp
  have HNK := Lib.hid (fun W => knew_any HD.out W u v sd m wu wv ws wm)
  have HNP := Lib.hid (fun W => knew_any HD.out W pa pb sd m wpa wpb ws wm)
  have HRG := Lib.hid (fun W => rcgood_any u v wu wv W)
  clear hA hl D NB hln
  go_enter Tryz.func6, Tryz.ntmps6
  go_wp2_with fail
  generalize ((w.alloc (.cells #[.int .u64 u, .int .u64 v, .int .i64 sd, .int .i64 m, .slice a ln cap] 27)).alloc (.cells #[.int .u64 pa, .int .u64 pb] 24)) = wC at *
  refine (alive14_any HD.out wC).mono ?_
  rintro e w2 ⟨rfl, hb2⟩
  have hcs := hcs.call hb2
  have Tp := Tp.call hb2
  have b2 := BC.trans (hb2.mono BC.size)
  have hz2 : w.heap.size + 2 ≤ w2.heap.size := by have := hb2.size; omega
  clear BC hb2 hsz
  have HCS2 := Lib.hid hcs
  have HTP2 := Lib.hid Tp
  have HQ0 := Lib.hid (fun W => cfg_neq 0 0 0 0 0 0 0 0 W)
  have h00 : (!((0 : Int) == 0 && (0 : Int) == 0 && (0 : Int) == 0 && (0 : Int) == 0)) = false := by decide
  rw [h00] at HQ0
  have hq0 := HQ0.out
  have b30 : Below w2.heap.size w2 w2 := Below.refl _ _
  clear h00
  go_wp2_with fail
  refine (kreset_nil _).mono ?_
  rintro e w31 ⟨rfl, b31⟩
  have b31 := b30.trans (b31.mono b30.size)
  go_wp2_with fail
  refine (kends_nil HNB.out _).mono ?_
  rintro e w32 ⟨rfl, b32⟩
  have b32 := b31.trans (b32.mono b31.size)
  go_wp2_with fail
  refine (kquan_nil _ 0 1).mono ?_
  rintro e w33 ⟨rfl, b33⟩
  have b33 := b32.trans (b33.mono b32.size)
  go_wp2_with fail
  refine (kput_nil HNB.out _ 1 1 ⟨by decide, by decide⟩ ⟨by decide, by decide⟩).mono ?_
  rintro e w34 ⟨rfl, b34⟩
  have b34 := b33.trans (b34.mono b33.size)
  go_wp2_with fail
  refine (kjoin_nil _).mono ?_
  rintro e w35 ⟨rfl, b35⟩
  have b35 := b34.trans (b35.mono b34.size)
  go_wp2_with fail
  refine (kbins_nil _).mono ?_
  rintro e w36 ⟨rfl, b36⟩
  have b36 := b35.trans (b36.mono b35.size)
  go_wp2_with fail
  refine (kconfig_nil _).mono ?_
  rintro e w37 ⟨rfl, b37⟩
  have b37 := b36.trans (b37.mono b36.size)
  go_wp2_with fail
  refine (kset_nil HNB.out _).mono ?_
  rintro e w38 ⟨rfl, b38⟩
  have b38 := b37.trans (b38.mono b37.size)
  have hcs := HCS2.out.call b38
  have Tp := HTP2.out.call b38
  have HCS3 := Lib.hid hcs
  have HTP3 := Lib.hid Tp
  have hb2' := b2.trans (b38.mono b2.size)
  have hz2' : w2.heap.size ≤ w38.heap.size := b38.size
  clear b30 b31 b32 b33 b34 b35 b36 b37 b38 hq0
  obtain ⟨c0, c1, c2, c3, c4⟩ := id hcs
  clear hcs Tp
  go_wp2_with fail
  refine (HNK.out _).mono ?_
  rintro e w40 (⟨B0, C0, S0, R0, P0, s0, hsi0, hP0, hof0, m10, m20, rfl, _, _, b40⟩ | ⟨ec, rfl, hec, hg0, hee, b40⟩)
  case inr =>
    have hnone : ∀ (s : Bool) (P : Pt), sideI s = sd → P.ok → PtOf 0 u v P → 1 ≤ m → m ≤ 4096 → False := fun s P hs hP hof h1 h2 => by
      obtain ⟨nn, rfl⟩ := pt_cells hP hof
      rcases hee with ⟨_, h | h⟩ | ⟨_, h⟩
      · rw [goodC_iff.2 hP.1] at h; cases h
      · exact h ⟨by rw [← hs]; cases s <;> decide, by rw [← hs]; cases s <;> decide, h1, h2⟩
      · have hh := low_mono hP.1 hP.2.2
        rw [hP.2.1.2] at hh; omega
    have HNO := Lib.hid hnone
    have HCS4 := Lib.hid (HCS3.out.call b40)
    have bw40 := hb2'.trans (b40.mono hb2'.size)
    have HRG4 := Lib.hid (HRG.out w40)
    have he0 : (ec == 0) = false := beq_eq_false_iff_ne.2 (by omega)
    clear hnone c0 c1 c2 c3 c4 hee b40
    obtain ⟨c0, c1, c2, c3, c4⟩ := id HCS4.out
    cases hg : goodC u v with
    | false =>
      obtain rfl := hg0 hg
      rw [hg] at HRG4
      clear hg hg0
      go_wp2_with fail
      refine HRG4.out.mono ?_
      rintro e w41 ⟨rfl, b41⟩
      have b41w := bw40.trans (b41.mono bw40.size)
      obtain ⟨c0, c1, c2, c3, c4⟩ := HCS4.out.call b41
      go_wp2_with fail
      refine (HBD.out w41 (HA.out.call b41w)).mono ?_
      rintro e w42 (⟨B, C, S, R, M, P, s, n, lo, hi, rfl, hsi, hP, hof, m1, m2, _⟩ | ⟨rfl, b42⟩)
      · exact (HNO.out s P hsi hP hof m1 m2).elim
      · go_wp2_with fail
        go_ret
        exact ⟨rfl, b41w.trans (b42.mono b41w.size)⟩
    | true =>
      rw [hg] at HRG4
      clear hg hg0
      go_wp2_with fail
      refine HRG4.out.mono ?_
      rintro e w41 ⟨rfl, b41⟩
      have b41w := bw40.trans (b41.mono bw40.size)
      obtain ⟨c0, c1, c2, c3, c4⟩ := HCS4.out.call b41
      go_wp2_with fail
      refine (HBD.out w41 (HA.out.call b41w)).mono ?_
      rintro e w42 (⟨B, C, S, R, M, P, s, n, lo, hi, rfl, hsi, hP, hof, m1, m2, _⟩ | ⟨rfl, b42⟩)
      · exact (HNO.out s P hsi hP hof m1 m2).elim
      · go_wp2_with fail
        go_ret
        exact ⟨rfl, b41w.trans (b42.mono b41w.size)⟩
  have hgood : goodC u v = true := by
    obtain ⟨nn, rfl⟩ := pt_cells hP0 hof0
    exact goodC_iff.2 hP0.1
  have hs01 : 0 ≤ sd ∧ sd ≤ 1 := by rw [← hsi0]; cases s0 <;> decide
  obtain ⟨hs0, hs1⟩ := hs01
  rw [hgood] at HRG
  have HCS4 := Lib.hid (HCS3.out.call b40)
  have HTP4 := Lib.hid (HTP3.out.call b40)
  have bw40 := hb2'.trans (b40.mono hb2'.size)
  have hz40 := b40.size
  clear c0 c1 c2 c3 c4 hgood hsi0 hP0 hof0 b40 HNK
  obtain ⟨c0, c1, c2, c3, c4⟩ := id HCS4.out
  have n1 : ¬ m < 1 := by omega
  have n2 : ¬ 4096 < m := by omega
  have n3 : ¬ sd < 0 := by omega
  have n4 : ¬ 1 < sd := by omega
  go_wp2_with fail
  refine (HRG.out _).mono ?_
  rintro e w41 ⟨rfl, b41⟩
  have HCS5 := Lib.hid (HCS4.out.call b41)
  have HTP5 := Lib.hid (HTP4.out.call b41)
  have b41w := bw40.trans (b41.mono bw40.size)
  have hz41 := b41.size
  clear c0 c1 c2 c3 c4 b41
  obtain ⟨c0, c1, c2, c3, c4⟩ := id HCS5.out
  go_wp2_with fail
  refine (HBD.out w41 (HA.out.call b41w)).mono ?_
  rintro e w3 (⟨B, C, S, R, M, P, s, n, lo, hi, rfl, hsi, hP, hof, m1, m2, hf, hl, hsk, hrk, hsr, hn1, hn2, v100, hb3, hfar, hv5, hM⟩ | ⟨rfl, hb3⟩)
  case inr =>
    have b3 := b41w.trans (hb3.mono b41w.size)
    go_wp2_with fail
    go_ret
    exact ⟨rfl, b3⟩
  have b3 := b41w.trans (hb3.mono b41w.size)
  have HCS := Lib.hid (HCS5.out.call hb3)
  have HTP := Lib.hid (HTP5.out.call hb3)
  have hIK : InvK w w3 Bn B C R M P u v s m A n w3 := ⟨⟨S, lo, hi, hsk, hsr, hrk, hn2⟩, by omega, b3, fun _ _ => rfl⟩
  have HIK := Lib.hid hIK
  have HPO := Lib.hid hP
  have HOF := Lib.hid hof
  have HF := Lib.hid hf
  have HSI := Lib.hid hsi
  have HMN := Lib.hid (show w.heap.size < n ∧ w.heap.size + 1 < n from ⟨by omega, by omega⟩)
  clear c0 c1 c2 c3 c4 hb3 hsk hrk hsr hfar hv5 hIK
  obtain ⟨T, hT⟩ : ∃ T, sumP A = T := ⟨_, rfl⟩
  have hsum0 := (fine_sum hf).1
  have hsum1 := fine_fit hf (by omega)
  have HC := Lib.hid (invk_calls HD.out (w := w) (w0 := w3) (B := B) (C := C) (R := R) (M := M) (P := P) (u := u) (v := v) (s := s) (m := m) (A := A) (n := n) hP hf (by omega) m1 m2 x wx)
  rw [hT] at HC hsum0 hsum1
  rw [hsi] at HC
  obtain ⟨HSA', HA0', HTO', HAF', HCF'⟩ := HC.out
  have HSA := Lib.hid HSA'
  have HA0 := Lib.hid HA0'
  have HTO := Lib.hid HTO'
  have HAF := Lib.hid HAF'
  have HCF := Lib.hid HCF'
  have ew1 : IntKind.u64.wrap (9223372036854775808 - T) = 9223372036854775808 - T := by rw [IntKind.wrap_u64]; omega
  have hqq := fun W => cfg_neq u v sd m u v sd m W
  have hnb : (!(u == u && v == v && sd == sd && m == m)) = false := by simp
  rw [hnb] at hqq
  clear HC HSA' HA0' HTO' HAF' HCF' hP hof hf hsi hnb hT
  have HST : Hid (∀ W, InvK w w3 Bn B C R M P u v s m A n W → W.cell? ⟨w.heap.size, 0, none⟩ = some (.int .u64 u) ∧ W.cell? ⟨w.heap.size, 1, none⟩ = some (.int .u64 v) ∧ W.cell? ⟨w.heap.size, 2, none⟩ = some (.int .i64 sd) ∧ W.cell? ⟨w.heap.size, 3, none⟩ = some (.int .i64 m) ∧ InvK w w3 Bn B C R M P u v s m A n W) := Lib.hid (fun W h => ⟨h.cell HMN.out.1 HCS.out.c0, h.cell HMN.out.1 HCS.out.c1, h.cell HMN.out.1 HCS.out.c2, h.cell HMN.out.1 HCS.out.c3, h⟩)
  have HDR := Lib.hid (invk_below HD.out HIK.out (Below.refl _ _).drew)
  obtain ⟨c0, c1, c2, c3, c4⟩ := id HCS.out
  go_wp2_with fail
  go_region_held3 (fun w' => w'.cell? ⟨w.heap.size, 0, none⟩ = some (.int .u64 u) ∧ w'.cell? ⟨w.heap.size, 1, none⟩ = some (.int .u64 v) ∧ w'.cell? ⟨w.heap.size, 2, none⟩ = some (.int .i64 sd) ∧ w'.cell? ⟨w.heap.size, 3, none⟩ = some (.int .i64 m) ∧ InvK w w3 Bn B C R M P u v s m A n w')
    (first | exact HST.out _ HDR.out | exact HST.out _ hIA | assumption)
    ((first
      | (go_at_call 14; refine (HSA.out _ (And.right (And.right (And.right (And.right (by assumption)))))).mono ?_; rintro e wA ⟨rfl, hIA⟩)
      | (go_at_call 17; refine (HTO.out _ (And.right (And.right (And.right (And.right (by assumption)))))).mono ?_; rintro e wA ⟨rfl, hIA⟩)
      | (go_at_call 27; refine (HCF.out _ (And.right (And.right (And.right (And.right (by assumption)))))).mono ?_; rintro e wA ⟨rfl, hIA⟩)
      | (go_at_call 25; first | (with_reducible refine (HA0.out _ (And.right (And.right (And.right (And.right (by assumption)))))).mono ?_; rintro e wA ⟨rfl, hIA⟩) | (refine (HAF.out _ (And.right (And.right (And.right (And.right (by assumption)))))).mono ?_; rintro e wA ⟨rfl, hIA⟩))))
  rename_i hHeld
  obtain ⟨_, _, _, _, hI4⟩ := hHeld
  have HI4 := Lib.hid hI4
  clear hIA
  generalize wA = w5 at *
  have q0 := hI4.cell HMN.out.2 HTP.out.c0
  have q1 := hI4.cell HMN.out.2 HTP.out.c1
  clear hI4 ew1 hqq HDR HCF HAF HA0 HTO HST
  go_wp2_with fail
  refine (HNP.out _).mono ?_
  rintro e w50 (⟨B2, C2, S2, R2, P2, s2, hsi2, hP2, hof2, _, _, rfl, hsk2, hSR2, b50⟩ | ⟨ec, rfl, hec, _, _, b50⟩)
  case inr =>
    have HIX := Lib.hid (invk_below HD.out HI4.out b50)
    have he0 : (ec == 0) = false := beq_eq_false_iff_ne.2 (by omega)
    clear q0 q1 b50
    go_wp2_with fail
    refine (HSA.out _ HIX.out).mono ?_
    rintro e w60 ⟨rfl, hI60⟩
    have HI60 := Lib.hid hI60
    clear hI60
    go_wp2_with fail
    refine (kjoin_none _ B).mono ?_
    rintro e w61 ⟨rfl, b61⟩
    have hI61 := invk_below HD.out HI60.out b61
    have hbw61 := hI61.bel
    obtain ⟨S6, lo6, hi6, h61, h62, h63, h64⟩ := hI61.ex
    have HS6 := Lib.hid h62
    have HR6 := Lib.hid h63
    have HRS := Lib.hid (kreset_any HD.out h61.x m1 m2)
    have HML := Lib.hid (h63.mlt h64)
    have HLE := Lib.hid hI61.le
    clear h61 h62 h63 hI61 b61
    go_wp2_with fail
    refine HRS.out.mono ?_
    rintro e w62 ⟨S7, rfl, hx7, hk7, hS7⟩
    have hr7 := HR6.out.past hk7 (fun k hk => HS6.out k (Or.inl hk)) h64
    have bw62 := hk7.below hbw61 hbw61.size (fun i hi => by have := HS6.out i (Or.inl hi); have := HLE.out; omega)
    have hz62 := hk7.size
    obtain ⟨lo7, re7, dg7, av7, cp7, _, _, h73⟩ := hr7.ref.ex
    have y5 : w62.cell? ⟨M, 5, none⟩ = some (.slice av7 A.length cp7) := by rw [Joins.cell_of_block h73]; rfl
    have f5 : w62.frozen? ⟨M, 5, none⟩ = false := Joins.unfrozen_of_block h73 5
    have hs7 : ∀ k, skB B S7 k ∨ R k → n ≤ k := fun k hk => by
      rcases hk with (rfl | a) | a
      · exact HS6.out _ (Or.inl (Or.inl rfl))
      · rcases hS7 k a with a | a
        · exact HS6.out k (Or.inl (Or.inr a))
        · omega
      · exact HS6.out k (Or.inr a)
    have hx8 : SkX Bn (w62.setCell ⟨M, 5, none⟩ (.slice none 0 0)) B C S7 R P u v s m stNil 0 0 := hx7.keep HD.out (fun k hk => Below.heap_setCell w62 _ _ k (by have := hs7 k hk; have := HML.out; show k ≠ M; omega))
    have hr8 := RefN.wipe hr7.ref
    have bw8 : Below w.heap.size w (w62.setCell ⟨M, 5, none⟩ (.slice none 0 0)) := bw62.setCell (p := ⟨M, 5, none⟩) (by show w.heap.size ≤ M; have := hM; omega) _
    have HX8 := Lib.hid hx8
    have HR8 := Lib.hid hr8
    have HB8 := Lib.hid bw8
    have HS7 := Lib.hid hs7
    have hz8 : (w62.setCell ⟨M, 5, none⟩ (.slice none 0 0)).heap.size = w62.heap.size := by simp [World.setCell]
    clear hr7 h73 hx7 hk7 hS7 hs7 hx8 hr8 bw8
    go_wp2_with fail
    generalize (w62.setCell ⟨M, 5, none⟩ (.slice none 0 0)) = w8 at *
    have hv8 : SkV Bn w8 B C S7 R P u v s m [] 0 0 := ⟨by rw [stv_nil]; exact HX8.out, fun h => absurd rfl h⟩
    refine (same14_any HD.out w8 B C M S7 R P u v s m [] 0 0 hv8 HR8.out HPO.out (fun v hv => by cases hv) (by decide) m1 m2).mono ?_
    rintro e w9 ⟨rfl, b9⟩
    have hv9 : SkV Bn w9 B C S7 R P u v s m (([(x, 2)] : List PairV).take 0) 0 0 := hv8.call HD.out b9
    have HPU := Lib.hid (kput_v HD.out HPO.out (show 0 < m by omega) hv9 (fun v hv => by cases hv) (by omega) x 2 rfl ⟨wx, by decide, by decide⟩)
    have bw9 := HB8.out.trans (b9.mono HB8.out.size)
    have hz9 := b9.size
    clear hv8 hv9
    go_wp2_with fail
    refine HPU.out.mono ?_
    rintro e w10 ⟨S9, lo9, hi9, rfl, hv10, hk10, _⟩
    have bw10 : Below w.heap.size w w10 := hk10.below bw9 bw9.size (fun i hi => by have := HS7.out i (Or.inl hi); have := HLE.out; omega)
    have hv10' : SkV Bn w10 B C S9 R P u v s m [(x, 2)] lo9 hi9 := hv10
    have hf2 : FineV [(x, 2)] := fun v hv => by
      have : v = (x, 2) := by simpa using hv
      subst this; exact ⟨wx, by show (0 : Int) < 2; decide, by show (2 : Int) ≤ 1125899906842624; decide⟩
    have hall2 := stv_all HPO.out s m hf2 (by simp)
    have hsl2 := stv_len HPO.out s m hf2 (by simp)
    have hs2 : sumP [(x, 2)] = 2 := by
      have := cnt_one (fun _ => true) ((x, 2) : PairV)
      rw [cnt_all] at this; simpa using this
    have HBI := Lib.hid (kbins_at hv10'.x.cells.c4)
    have HTT := Lib.hid (fun W (hb : Below w10.heap.size w10 W) => HD.out.total W C S9 R P s m _ (HD.out.call hv10'.x.bins hb) (by simp at hsl2; omega) (by simp at hsl2; omega))
    rw [hall2, hs2] at HTT
    clear hv10 hv10' hk10 hf2 hall2 hsl2 hs2
    go_wp2_with fail
    refine HBI.out.mono ?_
    rintro e w11 ⟨rfl, b11⟩
    go_wp2_with fail
    refine (HTT.out _ b11).mono ?_
    rintro e w12 ⟨rfl, b12⟩
    have b12 := b11.trans (b12.mono b11.size)
    go_wp2_with fail
    go_ret
    exact ⟨rfl, bw10.trans (b12.mono bw10.size)⟩
  have hI5 := invk_below HD.out HI4.out b50
  have HI5 := Lib.hid hI5
  have q0 := hI5.cell HMN.out.2 HTP.out.c0
  have q1 := hI5.cell HMN.out.2 HTP.out.c1
  have g0 := hI5.cell HMN.out.1 HCS.out.c0
  have g1 := hI5.cell HMN.out.1 HCS.out.c1
  have HRQ := Lib.hid (fun W => rat_neq pa pb u v W)
  have HK2 := Lib.hid hsk2.cells
  clear hI5 hsk2 hP2 hof2 b50
  by_cases hpq : pa = u ∧ pb = v
  · have hb : (!(pa == u && pb == v)) = false := by simp [hpq.1, hpq.2]
    rw [hb] at HRQ
    have hrq := HRQ.out
    have HIX := HI5
    clear hb hpq
    go_wp2_with fail
    clear hrq q0 q1 g0 g1
    refine (HSA.out _ HIX.out).mono ?_
    rintro e w60 ⟨rfl, hI60⟩
    have HI60 := Lib.hid hI60
    clear hI60
    go_wp2_with fail
    refine (kjoin_none _ B).mono ?_
    rintro e w61 ⟨rfl, b61⟩
    have hI61 := invk_below HD.out HI60.out b61
    have hbw61 := hI61.bel
    obtain ⟨S6, lo6, hi6, h61, h62, h63, h64⟩ := hI61.ex
    have HS6 := Lib.hid h62
    have HR6 := Lib.hid h63
    have HRS := Lib.hid (kreset_any HD.out h61.x m1 m2)
    have HML := Lib.hid (h63.mlt h64)
    have HLE := Lib.hid hI61.le
    clear h61 h62 h63 hI61 b61
    go_wp2_with fail
    refine HRS.out.mono ?_
    rintro e w62 ⟨S7, rfl, hx7, hk7, hS7⟩
    have hr7 := HR6.out.past hk7 (fun k hk => HS6.out k (Or.inl hk)) h64
    have bw62 := hk7.below hbw61 hbw61.size (fun i hi => by have := HS6.out i (Or.inl hi); have := HLE.out; omega)
    have hz62 := hk7.size
    obtain ⟨lo7, re7, dg7, av7, cp7, _, _, h73⟩ := hr7.ref.ex
    have y5 : w62.cell? ⟨M, 5, none⟩ = some (.slice av7 A.length cp7) := by rw [Joins.cell_of_block h73]; rfl
    have f5 : w62.frozen? ⟨M, 5, none⟩ = false := Joins.unfrozen_of_block h73 5
    have hs7 : ∀ k, skB B S7 k ∨ R k → n ≤ k := fun k hk => by
      rcases hk with (rfl | a) | a
      · exact HS6.out _ (Or.inl (Or.inl rfl))
      · rcases hS7 k a with a | a
        · exact HS6.out k (Or.inl (Or.inr a))
        · omega
      · exact HS6.out k (Or.inr a)
    have hx8 : SkX Bn (w62.setCell ⟨M, 5, none⟩ (.slice none 0 0)) B C S7 R P u v s m stNil 0 0 := hx7.keep HD.out (fun k hk => Below.heap_setCell w62 _ _ k (by have := hs7 k hk; have := HML.out; show k ≠ M; omega))
    have hr8 := RefN.wipe hr7.ref
    have bw8 : Below w.heap.size w (w62.setCell ⟨M, 5, none⟩ (.slice none 0 0)) := bw62.setCell (p := ⟨M, 5, none⟩) (by show w.heap.size ≤ M; have := hM; omega) _
    have HX8 := Lib.hid hx8
    have HR8 := Lib.hid hr8
    have HB8 := Lib.hid bw8
    have HS7 := Lib.hid hs7
    have hz8 : (w62.setCell ⟨M, 5, none⟩ (.slice none 0 0)).heap.size = w62.heap.size := by simp [World.setCell]
    clear hr7 h73 hx7 hk7 hS7 hs7 hx8 hr8 bw8
    go_wp2_with fail
    generalize (w62.setCell ⟨M, 5, none⟩ (.slice none 0 0)) = w8 at *
    have hv8 : SkV Bn w8 B C S7 R P u v s m [] 0 0 := ⟨by rw [stv_nil]; exact HX8.out, fun h => absurd rfl h⟩
    refine (same14_any HD.out w8 B C M S7 R P u v s m [] 0 0 hv8 HR8.out HPO.out (fun v hv => by cases hv) (by decide) m1 m2).mono ?_
    rintro e w9 ⟨rfl, b9⟩
    have hv9 : SkV Bn w9 B C S7 R P u v s m (([(x, 2)] : List PairV).take 0) 0 0 := hv8.call HD.out b9
    have HPU := Lib.hid (kput_v HD.out HPO.out (show 0 < m by omega) hv9 (fun v hv => by cases hv) (by omega) x 2 rfl ⟨wx, by decide, by decide⟩)
    have bw9 := HB8.out.trans (b9.mono HB8.out.size)
    have hz9 := b9.size
    clear hv8 hv9
    go_wp2_with fail
    refine HPU.out.mono ?_
    rintro e w10 ⟨S9, lo9, hi9, rfl, hv10, hk10, _⟩
    have bw10 : Below w.heap.size w w10 := hk10.below bw9 bw9.size (fun i hi => by have := HS7.out i (Or.inl hi); have := HLE.out; omega)
    have hv10' : SkV Bn w10 B C S9 R P u v s m [(x, 2)] lo9 hi9 := hv10
    have hf2 : FineV [(x, 2)] := fun v hv => by
      have : v = (x, 2) := by simpa using hv
      subst this; exact ⟨wx, by show (0 : Int) < 2; decide, by show (2 : Int) ≤ 1125899906842624; decide⟩
    have hall2 := stv_all HPO.out s m hf2 (by simp)
    have hsl2 := stv_len HPO.out s m hf2 (by simp)
    have hs2 : sumP [(x, 2)] = 2 := by
      have := cnt_one (fun _ => true) ((x, 2) : PairV)
      rw [cnt_all] at this; simpa using this
    have HBI := Lib.hid (kbins_at hv10'.x.cells.c4)
    have HTT := Lib.hid (fun W (hb : Below w10.heap.size w10 W) => HD.out.total W C S9 R P s m _ (HD.out.call hv10'.x.bins hb) (by simp at hsl2; omega) (by simp at hsl2; omega))
    rw [hall2, hs2] at HTT
    clear hv10 hv10' hk10 hf2 hall2 hsl2 hs2
    go_wp2_with fail
    refine HBI.out.mono ?_
    rintro e w11 ⟨rfl, b11⟩
    go_wp2_with fail
    refine (HTT.out _ b11).mono ?_
    rintro e w12 ⟨rfl, b12⟩
    have b12 := b11.trans (b12.mono b11.size)
    go_wp2_with fail
    go_ret
    exact ⟨rfl, bw10.trans (b12.mono bw10.size)⟩
  have hne : (pa == u && pb == v) = false := by
    by_cases h1 : pa = u
    · have : (pb == v) = false := beq_eq_false_iff_ne.2 (fun e => hpq ⟨h1, e⟩)
      rw [this]; simp
    · have : (pa == u) = false := beq_eq_false_iff_ne.2 h1
      rw [this]; simp
  rw [hne] at HRQ
  have hrq := HRQ.out
  have hnb : (!false) = true := rfl
  rw [hnb] at hrq
  have hn1' : (u == pa && v == pb && sideI s == sideI s2 && m == m) = false := by
    have e1 := beq_swap u pa
    have e2 := beq_swap v pb
    rw [e1, e2, hne]; simp
  have hn2' : (pa == u && pb == v && sideI s2 == sideI s && m == m) = false := by rw [hne]; simp
  have HJ1 := Lib.hid (fun W (hb : Below w50.heap.size w50 W) => by
    obtain ⟨S6, lo6, hi6, h61, _⟩ := HI5.out.ex
    exact kjoin_other (h61.x.cells.call hb) (HK2.out.call hb) hn1')
  have HJ2 := Lib.hid (fun W (hb : Below w50.heap.size w50 W) => by
    obtain ⟨S6, lo6, hi6, h61, _⟩ := HI5.out.ex
    exact kjoin_other (HK2.out.call hb) (h61.x.cells.call hb) hn2')
  clear hne hn1' hn2' hpq hnb
  go_wp2_with fail
  clear hrq q0 q1 g0 g1
  refine (HJ1.out _ (Below.refl _ _)).mono ?_
  rintro e w51 ⟨rfl, b51⟩
  go_wp2_with fail
  refine (HJ2.out _ b51).mono ?_
  rintro e w52 ⟨rfl, b52⟩
  have HIX := Lib.hid (invk_below HD.out HI5.out (b51.trans (b52.mono b51.size)))
  clear b51 b52
  go_wp2_with fail
  refine (HSA.out _ HIX.out).mono ?_
  rintro e w60 ⟨rfl, hI60⟩
  have HI60 := Lib.hid hI60
  clear hI60
  go_wp2_with fail
  refine (kjoin_none _ B).mono ?_
  rintro e w61 ⟨rfl, b61⟩
  have hI61 := invk_below HD.out HI60.out b61
  have hbw61 := hI61.bel
  obtain ⟨S6, lo6, hi6, h61, h62, h63, h64⟩ := hI61.ex
  have HS6 := Lib.hid h62
  have HR6 := Lib.hid h63
  have HRS := Lib.hid (kreset_any HD.out h61.x m1 m2)
  have HML := Lib.hid (h63.mlt h64)
  have HLE := Lib.hid hI61.le
  clear h61 h62 h63 hI61 b61
  go_wp2_with fail
  refine HRS.out.mono ?_
  rintro e w62 ⟨S7, rfl, hx7, hk7, hS7⟩
  have hr7 := HR6.out.past hk7 (fun k hk => HS6.out k (Or.inl hk)) h64
  have bw62 := hk7.below hbw61 hbw61.size (fun i hi => by have := HS6.out i (Or.inl hi); have := HLE.out; omega)
  have hz62 := hk7.size
  obtain ⟨lo7, re7, dg7, av7, cp7, _, _, h73⟩ := hr7.ref.ex
  have y5 : w62.cell? ⟨M, 5, none⟩ = some (.slice av7 A.length cp7) := by rw [Joins.cell_of_block h73]; rfl
  have f5 : w62.frozen? ⟨M, 5, none⟩ = false := Joins.unfrozen_of_block h73 5
  have hs7 : ∀ k, skB B S7 k ∨ R k → n ≤ k := fun k hk => by
    rcases hk with (rfl | a) | a
    · exact HS6.out _ (Or.inl (Or.inl rfl))
    · rcases hS7 k a with a | a
      · exact HS6.out k (Or.inl (Or.inr a))
      · omega
    · exact HS6.out k (Or.inr a)
  have hx8 : SkX Bn (w62.setCell ⟨M, 5, none⟩ (.slice none 0 0)) B C S7 R P u v s m stNil 0 0 := hx7.keep HD.out (fun k hk => Below.heap_setCell w62 _ _ k (by have := hs7 k hk; have := HML.out; show k ≠ M; omega))
  have hr8 := RefN.wipe hr7.ref
  have bw8 : Below w.heap.size w (w62.setCell ⟨M, 5, none⟩ (.slice none 0 0)) := bw62.setCell (p := ⟨M, 5, none⟩) (by show w.heap.size ≤ M; have := hM; omega) _
  have HX8 := Lib.hid hx8
  have HR8 := Lib.hid hr8
  have HB8 := Lib.hid bw8
  have HS7 := Lib.hid hs7
  have hz8 : (w62.setCell ⟨M, 5, none⟩ (.slice none 0 0)).heap.size = w62.heap.size := by simp [World.setCell]
  clear hr7 h73 hx7 hk7 hS7 hs7 hx8 hr8 bw8
  go_wp2_with fail
  generalize (w62.setCell ⟨M, 5, none⟩ (.slice none 0 0)) = w8 at *
  have hv8 : SkV Bn w8 B C S7 R P u v s m [] 0 0 := ⟨by rw [stv_nil]; exact HX8.out, fun h => absurd rfl h⟩
  refine (same14_any HD.out w8 B C M S7 R P u v s m [] 0 0 hv8 HR8.out HPO.out (fun v hv => by cases hv) (by decide) m1 m2).mono ?_
  rintro e w9 ⟨rfl, b9⟩
  have hv9 : SkV Bn w9 B C S7 R P u v s m (([(x, 2)] : List PairV).take 0) 0 0 := hv8.call HD.out b9
  have HPU := Lib.hid (kput_v HD.out HPO.out (show 0 < m by omega) hv9 (fun v hv => by cases hv) (by omega) x 2 rfl ⟨wx, by decide, by decide⟩)
  have bw9 := HB8.out.trans (b9.mono HB8.out.size)
  have hz9 := b9.size
  clear hv8 hv9
  go_wp2_with fail
  refine HPU.out.mono ?_
  rintro e w10 ⟨S9, lo9, hi9, rfl, hv10, hk10, _⟩
  have bw10 : Below w.heap.size w w10 := hk10.below bw9 bw9.size (fun i hi => by have := HS7.out i (Or.inl hi); have := HLE.out; omega)
  have hv10' : SkV Bn w10 B C S9 R P u v s m [(x, 2)] lo9 hi9 := hv10
  have hf2 : FineV [(x, 2)] := fun v hv => by
    have : v = (x, 2) := by simpa using hv
    subst this; exact ⟨wx, by show (0 : Int) < 2; decide, by show (2 : Int) ≤ 1125899906842624; decide⟩
  have hall2 := stv_all HPO.out s m hf2 (by simp)
  have hsl2 := stv_len HPO.out s m hf2 (by simp)
  have hs2 : sumP [(x, 2)] = 2 := by
    have := cnt_one (fun _ => true) ((x, 2) : PairV)
    rw [cnt_all] at this; simpa using this
  have HBI := Lib.hid (kbins_at hv10'.x.cells.c4)
  have HTT := Lib.hid (fun W (hb : Below w10.heap.size w10 W) => HD.out.total W C S9 R P s m _ (HD.out.call hv10'.x.bins hb) (by simp at hsl2; omega) (by simp at hsl2; omega))
  rw [hall2, hs2] at HTT
  clear hv10 hv10' hk10 hf2 hall2 hsl2 hs2
  go_wp2_with fail
  refine HBI.out.mono ?_
  rintro e w11 ⟨rfl, b11⟩
  go_wp2_with fail
  refine (HTT.out _ b11).mono ?_
  rintro e w12 ⟨rfl, b12⟩
  have b12 := b11.trans (b12.mono b11.size)
  go_wp2_with fail
  go_ret
  exact ⟨rfl, bw10.trans (b12.mono bw10.size)⟩
end Go.Proofs.YtcijflakldggaaaGreat
