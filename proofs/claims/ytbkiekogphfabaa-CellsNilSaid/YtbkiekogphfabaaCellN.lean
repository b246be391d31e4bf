/-
  Walks: a table's New.
-/
import Derived.Test.YtbkiekogphfabaaCellB
import Derived.Test.YtbkiekogphfabaaCellF
namespace Go.Proofs.Ytbkiekogphfabaa
set_option linter.unusedVariables false
set_option linter.unusedSimpArgs false
open Go.RowKit

theorem set_cells11 {w : World} {b : Nat} {cs : Array Value} {t : TypeId} (h : w.heap[b]? = some (.cells cs t (0, 0))) (o : Nat) (u : Value) : (w.setCell ⟨b, o, none⟩ u).heap[b]? = some (.cells (cs.setIfInBounds o u) t (0, 0)) := by
  have hlt := lt_of_block h
  have h' : w.heap[b] = .cells cs t (0, 0) := by simpa [Array.getElem?_eq_getElem hlt] using h
  show (w.heap.modify b _)[b]? = _
  rw [Array.getElem?_eq_getElem (by simpa using hlt), Array.getElem_modify_self, h']
  rfl
/-- A table on its way: its closeness in a box, the table at block B, its cells so far behind it. -/
structure Way (w0 w : World) (B : Nat) (u v : Int) (L : List CellV) : Prop where
  p0 : w.cell? ⟨w0.heap.size, 0, none⟩ = some (.int .u64 u)
  p1 : w.cell? ⟨w0.heap.size, 1, none⟩ = some (.int .u64 v)
  b : ∃ x, w.heap[B]? = some (.cells #[.int .u64 u, .int .u64 v, x] 53 (0, 0)) ∧ OwnR w (B + 1) x L
  bel : Below w0.heap.size w0 w
theorem Way.call {w0 w w' : World} {B : Nat} {u v : Int} {L : List CellV} (h : Way w0 w B u v L) (hb : Below w.heap.size w w') : Way w0 w' B u v L := by
  obtain ⟨p0, p1, ⟨x, hx, ho⟩, bel⟩ := h
  exact ⟨cell_later hb p0, cell_later hb p1, ⟨x, (hb.block _ (lt_of_block hx)).trans hx, ho.call hb⟩, bel.trans (hb.mono bel.size)⟩
/-- Behind an append to its cells, which lie in a world that has but more blocks. -/
theorem Way.put {w0 w W w1 : World} {B : Nat} {u v : Int} {L M : List CellV} {x x' : Value} (h : Way w0 w B u v L) (hx : w.heap[B]? = some (.cells #[.int .u64 u, .int .u64 v, x] 53 (0, 0))) (hB : w0.heap.size + 1 ≤ B) (hW : Below w.heap.size w W)
    (hown : OwnR W (B + 1) x L) (ho : OwnR w1 (B + 1) x' M) (hg : W.grownBy w1 x.ownBlock) : Way w0 (w1.setCell ⟨B, 2, none⟩ x') B u v M ∧ w1.heap[B]? = some (.cells #[.int .u64 u, .int .u64 v, x] 53 (0, 0)) ∧
      ∀ (k o : Nat) (y : Value), k ≠ B → x.ownBlock ≠ some k → W.cell? ⟨k, o, none⟩ = some y → (w1.setCell ⟨B, 2, none⟩ x').cell? ⟨k, o, none⟩ = some y := by
  obtain ⟨p0, p1, _, bel⟩ := h
  have hlt := lt_of_block hx
  have hz := hW.size
  have hne : ∀ k, x.ownBlock = some k → B + 1 ≤ k := fun k hk => (hown.lt k hk).1
  have hb1 : Below (B + 1) w w1 := (hW.mono (by omega)).grown hg (by omega) hne
  have hB1 : w1.heap[B]? = some (.cells #[.int .u64 u, .int .u64 v, x] 53 (0, 0)) := (hb1.block B (by omega)).trans hx
  have hc : ∀ (o : Nat) (y : Value), w.cell? ⟨w0.heap.size, o, none⟩ = some y → (w1.setCell ⟨B, 2, none⟩ x').cell? ⟨w0.heap.size, o, none⟩ = some y := by
    intro o y hy
    rw [World.cell?_setCell_other _ _ _ _ (two_far (by omega))]
    exact (World.cell?_of_block (a := ⟨w0.heap.size, o, none⟩) (hb1.block _ (by show w0.heap.size < B + 1; omega))).trans hy
  refine ⟨⟨hc 0 _ p0, hc 1 _ p1, ⟨x', ?_, ?_⟩, ?_⟩, hB1, ?_⟩
  · rw [set_cells11 hB1 2 _]; rfl
  · refine ownsRow_setCell_other ho ?_ _
    intro e
    have := (ho.lt B e).1
    omega
  · exact (bel.trans (hb1.mono (by omega))).setCell (p := ⟨B, 2, none⟩) (by show w0.heap.size ≤ B; omega) _
  · intro k o y hkB hkx hy
    rw [World.cell?_setCell_other _ _ _ _ (two_far (fun e => hkB e.symm))]
    exact (World.cell?_of_block (a := ⟨k, o, none⟩) (hg.block k (World.block_lt_of_cell? (a := ⟨k, o, none⟩) W hy) (fun e => hkx e.symm))).trans hy
theorem Way.c2 {w : World} {B : Nat} {a b x : Value} (h : w.heap[B]? = some (.cells #[a, b, x] 53 (0, 0))) : w.cell? ⟨B, 2, none⟩ = some x := by rw [Joins.cell_of_block h]; rfl
theorem Way.f2 {w : World} {B : Nat} {a b x : Value} (h : w.heap[B]? = some (.cells #[a, b, x] 53 (0, 0))) (o : Nat) : w.frozen? ⟨B, o, none⟩ = false := by simp [World.frozen?, h]

set_option maxHeartbeats 400000 in
theorem cnew_bad (u v : Int) (wu : Word u) (wv : Word v) (hg : goodC u v = false) (w : World) :
    Calls Try.prog 9 #[.agg #[.int .u64 u, .int .u64 v]] w fun e w' => e = .returned (.tuple #[.pointer none, .int .i64 1]) ∧ Below w.heap.size w w' := by
  have HG := Lib.hid (fun W => cgood_any u v wu wv W)
  rw [hg] at HG
  clear hg
  go_enter Try.func9, Try.ntmps9
  go_wp2_with fail
  refine (HG.out _).mono ?_
  rintro e w2 ⟨rfl, hb2⟩
  go_wp2_with fail
  go_ret2
  exact ⟨rfl, ((Below.refl _ _).alloc (Nat.le_refl _) _).trans (hb2.mono (by simp))⟩

/-- What New tells of a closeness that can be. -/
def NewC (w : World) (u v : Int) (e : Ending) (w' : World) : Prop :=
  (∃ B S n, e = .returned (.tuple #[.pointer (some ⟨B, 0, none⟩), .int .i64 0]) ∧ TabX w' B S u v n ∧ (∀ k, S k → w.heap.size ≤ k) ∧ Below w.heap.size w w') ∨
  (e = .returned (.tuple #[.pointer none, .int .i64 6]) ∧ lowC u v 4096 ≤ 9223372036854775808 ∧ Below w.heap.size w w')
theorem way_done {w0 w : World} {u v : Int} {k B : Nat} (g : GoodC u v) (hk : k ≤ 4096) (hl : ∀ j, j < k → lowC u v j ≤ 9223372036854775808) (hn : ¬ lowC u v k ≤ 9223372036854775808) (hB : w0.heap.size + 1 ≤ B) (h : Way w0 w B u v (rowC u v k)) :
    ∃ S, TabX w B S u v k ∧ ∀ j, S j → w0.heap.size ≤ j := by
  have ht : TabN u v k := ⟨hl, by have := low_le u v k; omega⟩
  obtain ⟨_, _, ⟨x, hx, ho⟩, _⟩ := h
  obtain ⟨b, cap, rfl, hb⟩ := ho.some_ (by rw [rowC_len]; exact tab_pos ht)
  rw [rowC_len] at hx ho
  exact ⟨fun j => j = B ∨ j = b, ⟨g, ht, hk, b, cap, hx, by omega, ho, fun j => Iff.rfl⟩, fun j hj => by rcases hj with rfl | rfl <;> omega⟩
theorem new_two (w : World) (x y : Value) (t : TypeId) : (w.drew.alloc (.cells #[x, y] t)).cell? ⟨w.heap.size, 0, none⟩ = some x ∧ (w.drew.alloc (.cells #[x, y] t)).cell? ⟨w.heap.size, 1, none⟩ = some y := by
  have h : (w.drew.alloc (.cells #[x, y] t)).heap[w.heap.size]? = some (.cells #[x, y] t (0, 0)) := heap_alloc_new w.drew _
  exact ⟨by rw [Joins.cell_of_block h]; rfl, by rw [Joins.cell_of_block h]; rfl⟩

set_option maxRecDepth 100000 in
set_option maxHeartbeats 2000000 in
theorem cnew_good (u v : Int) (g : GoodC u v) (w : World) :
    Calls Try.prog 9 #[.agg #[.int .u64 u, .int .u64 v]] w (NewC w u v) := by
  have HG : Hid (GoodC u v) := Lib.hid g
  obtain ⟨g0, g1, g2⟩ := id g
  have HC := Lib.hid (fun W => cgood_any u v (by unfold Word; omega) (by unfold Word; omega) W)
  rw [goodC_iff.2 g] at HC
  clear g
  go_enter Try.func9, Try.ntmps9
  go_wp2_with fail
  refine (HC.out _).mono ?_
  rintro e w2 ⟨rfl, hb2⟩
  have hz2 : w.heap.size + 1 ≤ w2.heap.size := by have := hb2.size; simp at this; omega
  obtain ⟨bc, bf⟩ := bcell hb2
  go_wp2_with fail
  have W0 : Way w (w2.alloc (.cells #[.int .u64 u, .int .u64 v, .slice none 0 0] 53)) w2.heap.size u v (rowC u v 0) :=
    ⟨cell_later ((Below.refl _ _).alloc (Nat.le_refl _) _) (cell_later hb2 (by go_simp)), cell_later ((Below.refl _ _).alloc (Nat.le_refl _) _) (cell_later hb2 (by go_simp)), ⟨_, heap_alloc_new _ _, OwnR.nil _ _⟩, (((Below.refl _ _).alloc (Nat.le_refl _) _).trans (hb2.mono (by simp))).alloc (by omega) _⟩
  clear bc bf hb2
  generalize w2.heap.size = B at *
  generalize w2.alloc (.cells #[.int .u64 u, .int .u64 v, .slice none 0 0] 53) = w3 at *
  go_loopw [5] (fun s wr => ∃ k : Nat, k ≤ 4096 ∧ s = .int .u64 (lowC u v k) ∧ (∀ j, j < k → lowC u v j ≤ 9223372036854775808) ∧ Way w wr B u v (rowC u v k)) (fun s _ => (9223372036854775810 - intOf s).toNat)
  case atStart => exact ⟨0, by omega, rfl, fun j hj => absurd hj (Nat.not_lt_zero _), W0⟩
  case round =>
    clear W0
    obtain ⟨k, hk, rfl, hl, hw⟩ := hrel
    have HL := Lib.hid hl
    have HW := Lib.hid hw
    clear hl hw
    have l0 := low_pos HG.out k
    have HS := Lib.hid (fun h => low_step HG.out (k := k) h)
    have HU := Lib.hid (low_succ u v k)
    have HK : Hid (¬ lowC u v k ≤ 9223372036854775808 → ∃ S, TabX wr B S u v k ∧ ∀ j, S j → w.heap.size ≤ j) := Lib.hid fun h => way_done HG.out hk HL.out h hz2 HW.out
    have HF : Hid (k = 4096 → lowC u v k = lowC u v 4096) := Lib.hid fun h => by rw [h]
    generalize hlo : lowC u v k = lo at *
    have HLO := Lib.hid hlo
    by_cases hle : lo ≤ 9223372036854775808
    · obtain ⟨p0, p1, ⟨x, hx, ho⟩, bel⟩ := id HW.out
      obtain ⟨A, cap, rfl⟩ := ho.form
      rw [rowC_len] at hx ho
      have c2 := Way.c2 hx
      have HX := Lib.hid hx
      have HO := Lib.hid ho
      clear hx ho hlo
      by_cases hf : k = 4096
      · have HF2 := Lib.hid (HF.out hf)
        subst hf
        go_wp2_with fail
        go_ret2
        refine Or.inr ⟨rfl, ?_, bel⟩
        have := HF2.out
        omega
      · have e1 : ((k : Int) == 4096) = false := by simp; omega
        obtain ⟨E, hE⟩ : ∃ E, endC u v lo = E := ⟨_, rfl⟩
        obtain ⟨R, hR⟩ : ∃ R, repC u v lo = R := ⟨_, rfl⟩
        have E0 : lo ≤ E := by rw [← hE]; exact end_ge HG.out l0 hle
        have E1 : E ≤ 9223372036854775808 := by rw [← hE]; exact end_le u v lo
        have HFR : Hid (∀ W, Calls Try.prog 21 #[.int .u64 lo, .agg #[.int .u64 u, .int .u64 v]] W fun e w' => e = .returned (.agg #[.int .u64 E, .int .u64 R]) ∧ Below W.heap.size W w') := Lib.hid fun W => from_any u v lo E R HG.out l0 hle hE hR W
        have HE := Lib.hid hE
        have HR := Lib.hid hR
        clear hE hR
        go_wp2_with fail
        refine (HFR.out _).mono ?_
        rintro e w4 ⟨rfl, hb4⟩
        have HW4 := Lib.hid (HW.out.call hb4)
        have hx4 := (hb4.block B (lt_of_block HX.out)).trans HX.out
        have hz4 := hb4.size
        have hB4 := lt_of_block HX.out
        have ho4 := HO.out.call hb4
        have hW5 : Below w4.heap.size w4 (w4.alloc (.cells #[.int .u64 E, .int .u64 R] 55)) := (Below.refl _ _).alloc (Nat.le_refl _) _
        obtain ⟨e0, e1c⟩ := (Two.new w4 (.int .u64 E) (.int .u64 R) 55 : Two _ _ _ _)
        have f0 := e0
        have hC : (Value.slice A k cap).ownBlock ≠ some w4.heap.size := fun e => by have := (ho4.lt _ e).2; omega
        have hCB : w4.heap.size ≠ B := by omega
        go_upto_region 9 with fail
        have hx5 := (hW5.block B (by omega)).trans hx4
        have ho5 := ho4.call hW5
        have HW5 := Lib.hid (HW4.out.call hW5)
        have hz5 := hW5.size
        have hB5 : B + 1 ≤ (w4.alloc (.cells #[.int .u64 E, .int .u64 R] 55)).heap.size := by omega
        clear hW5 hx4 ho4 HW4 hb4 hB4 f0
        generalize w4.alloc (.cells #[.int .u64 E, .int .u64 R] 55) = W at *
        generalize w4.heap.size = C at *
        have c25 := Way.c2 hx5
        have HO5 : Hid (∀ o, OwnR (W.drew.alloc o) (B + 1) (.slice A k cap) (rowC u v k)) := Lib.hid fun o => ho5.call ((Below.refl _ _).drew.alloc (Nat.le_refl _) _)
        have HBS : Hid (∀ o, B + 1 ≤ (W.drew.alloc o).heap.size) := Lib.hid fun o => by rw [World.size_alloc]; show B + 1 ≤ W.heap.size + 1; omega
        have HKL : Hid ((rowC u v k).length ≤ 100000) := Lib.hid (by rw [rowC_len]; omega)
        have HP : Hid (∀ (o : Obj) (x' : Value) (w1 : World), OwnR w1 (B + 1) x' (rowC u v k ++ [(E, R)]) → (W.drew.alloc o).grownBy w1 (Value.slice A k cap).ownBlock → ∃ A' c', x' = .slice A' (k + 1) c' ∧
            Way w (w1.setCell ⟨B, 2, none⟩ (.slice A' (k + 1) c')) B u v (rowC u v (k + 1)) ∧ w1.cell? ⟨B, 2, none⟩ = some (.slice A k cap) ∧ w1.frozen? ⟨B, 2, none⟩ = false ∧ (w1.setCell ⟨B, 2, none⟩ (.slice A' (k + 1) c')).cell? ⟨C, 0, none⟩ = some (.int .u64 E)) := Lib.hid fun o x' w1 h1 h2 => by
          have e : rowC u v k ++ [(E, R)] = rowC u v (k + 1) := by rw [rowC_succ, ← HE.out, ← HR.out, HLO.out]
          rw [e] at h1
          obtain ⟨A', c', rfl⟩ := h1.form
          rw [rowC_len] at h1 ⊢
          obtain ⟨P1, P2, P3⟩ := Way.put HW5.out hx5 hz2 ((Below.refl _ _).drew.alloc (Nat.le_refl _) o) (HO5.out o) h1 h2
          exact ⟨A', c', rfl, P1, Way.c2 P2, Way.f2 P2 2, P3 C 0 _ hCB hC (cell_later ((Below.refl _ _).drew.alloc (Nat.le_refl _) o) e0)⟩
        have c26 : ∀ o, (W.alloc o).cell? ⟨B, 2, none⟩ = some (.slice A k cap) := fun o => cell_later ((Below.refl _ _).alloc (Nat.le_refl _) o) c25
        have e06 : ∀ o, (W.alloc o).cell? ⟨C, 0, none⟩ = some (.int .u64 E) := fun o => cell_later ((Below.refl _ _).alloc (Nat.le_refl _) o) e0
        clear ho5 hx5
        go_region_law (refine step_append_cell rfl (.tmp 28) (.tmp 30) rfl (B + 1) _ (rowC u v k) W.heap.size (E, R) rfl (HO5.out _) rfl (new_two W _ _ _).1 (new_two W _ _ _).2 HKL.out (HBS.out _) ?_; intro x' w1 ho' hg'; obtain ⟨A', c', rfl, P1, P2, P3, P4⟩ := HP.out _ _ _ ho' hg'; have HP1 := Lib.hid P1; clear P1 ho' hg')
        all_goals
          go_wp2_with fail
          go_roundw
          case rel => exact ⟨k + 1, by omega, by rw [HU.out, HE.out], fun j hj => by
            by_cases e : j = k
            · subst e; have := HLO.out; omega
            · exact HL.out j (by omega), HP1.out⟩
          case measure => simp [intOf]; omega
    · go_wp2_with fail
      go_ret2
      obtain ⟨S, h1, h2⟩ := HK.out hle
      exact Or.inl ⟨B, S, k, rfl, h1, h2, HW.out.bel⟩
end Go.Proofs.Ytbkiekogphfabaa
