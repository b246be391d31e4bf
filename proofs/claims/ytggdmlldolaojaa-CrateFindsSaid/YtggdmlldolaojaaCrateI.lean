/-
  Walks: what a crate's All hands back: it goes over the row, pair by pair.
-/
import Derived.Test.YtggdmlldolaojaaCrateL
namespace Go.Proofs.Ytggdmlldolaojaa
set_option linter.unusedVariables false
set_option linter.unusedSimpArgs false
open Go.RowKit Go.Shelf
attribute [local go_sem] Oper.semAt_some

theorem keepU_below {U : Nat → Prop} {w W W' : World} (h : KeepU U w W) (hU : ∀ k, U k → k < W.heap.size) (hb : Below W.heap.size W W') : KeepU U w W' :=
  fun k hk => (hb.block k (hU k hk)).trans (h k hk)

set_option maxRecDepth 1000000 in
set_option maxHeartbeats 1000000 in
theorem all1_in {L : List PairV} (n : Nat) (hn : 1 ≤ n) (l Bx B G N : Nat) (U : Nat → Prop) (w : World) (hU : ∀ k, U k ↔ k = Bx ∨ k = B ∨ k = G) (hL : L ≠ []) (hc : Crt L) (hlay : Lay w B G (headP L) (lastP L) N L (sumP L)) (hN : (N : Int) = spreadP L + 1)
    (hbx : w.cell? ⟨Bx, 0, none⟩ = some (.pointer (some ⟨B, 0, none⟩))) (J Jx : List PairV → World → Prop) (hJ : ∀ s A A', J s A → Below A.heap.size A A' → J s A')
    (hY : ∀ pre x W1, J pre W1 → pre.length < L.length → YieldAt Fence.wide (n - 1) Try.prog l (encPr x) W1 fun e W' =>
      (e = .returned (.bool true) ∧ J (pre ++ [x]) W' ∧ KeepU U W1 W') ∨ (e = .returned (.bool false) ∧ Jx (pre ++ [x]) W'))
    (W : World) (hk : KeepU U w W) (h0 : J [] W) :
    CallsIn Fence.wide n Try.prog 28 #[.func (.yield l) #[] #[], .pointer (some ⟨Bx, 0, none⟩)] W fun e W' => (∃ v, e = .returned v) ∧
      ((∃ ys, ys = L ∧ J ys W') ∨ (∃ pre, pre <+: L ∧ Jx pre W')) := by
  have UB : U B := (hU B).2 (Or.inr (Or.inl rfl))
  have UG : U G := (hU G).2 (Or.inr (Or.inr rfl))
  have UX : U Bx := (hU Bx).2 (Or.inl rfl)
  have layAt : ∀ W', KeepU U w W' → Lay W' B G (headP L) (lastP L) N L (sumP L) := fun W' h => hlay.keep (h B UB) (h G UG)
  have boxAt : ∀ W', KeepU U w W' → W'.cell? ⟨Bx, 0, none⟩ = some (.pointer (some ⟨B, 0, none⟩)) := fun W' h => (World.cell?_of_block (a := ⟨Bx, 0, none⟩) (h Bx UX)).trans hbx
  have ltAt : ∀ W', KeepU U w W' → ∀ k, U k → k < W'.heap.size := fun W' h k hk => by
    rcases (hU k).1 hk with rfl | rfl | rfl
    · exact World.block_lt_of_cell? (a := ⟨k, 0, none⟩) _ (boxAt W' h)
    · exact lt_of_block (layAt W' h).b
    · exact lt_of_block (layAt W' h).g
  have hg := hc.good
  have hs0 := sum_pos hg hL
  have hs1 := hc.sum
  obtain ⟨t, ht⟩ : ∃ t, sumP L = t := ⟨_, rfl⟩
  rw [ht] at hs0 hs1
  have ht0 : (t == 0) = false := by simp; omega
  have hL0 := head_i64 hc.ok
  have hL1 := last_i64 hc.ok
  have hle := good_ends hg
  have hsp : spreadP L = lastP L - headP L := rfl
  have hfar := hc.far
  rw [hsp] at hN hfar
  have A0 : ∀ W' i x, KeepU U w W' → I64 i → countP L i = x → Calls Try.prog 16 #[.pointer (some ⟨B, 0, none⟩), .int .i64 i] W' fun e w' => e = .returned (.int .u64 x) ∧ ∃ m, w' = W'.drewN m := fun W' i x h hi hx =>
    cat_lay W' B G (headP L) (lastP L) t N L i x (by rw [← ht]; exact layAt W' h) (by omega) (by omega) hL0 hL1 (by omega) (by omega) hi (fun ho => by rw [← hx]; exact count_out hg ho) hx
  obtain ⟨a, ha⟩ : ∃ a, headP L = a := ⟨_, rfl⟩
  obtain ⟨z, hz⟩ : ∃ z, lastP L = z := ⟨_, rfl⟩
  have LF := Lib.hid (low_first hg)
  rw [ha] at hle hL0 LF
  rw [hz] at hle hL1
  have LA := Lib.hid (low_all (i := z + 1) hg (by omega))
  have c3At : ∀ W', KeepU U w W' → W'.cell? ⟨B, 3, none⟩ = some (.int .u64 t) := fun W' h => by rw [← ht]; exact (layAt W' h).c3
  have c0At : ∀ W', KeepU U w W' → W'.cell? ⟨B, 0, none⟩ = some (.int .i64 a) := fun W' h => by rw [← ha]; exact (layAt W' h).c0
  have c1At : ∀ W', KeepU U w W' → W'.cell? ⟨B, 1, none⟩ = some (.int .i64 z) := fun W' h => by rw [← hz]; exact (layAt W' h).c1
  obtain ⟨a0, a1⟩ := hL0
  obtain ⟨z0, z1⟩ := hL1
  have HA := Lib.hid A0
  have HC3 := Lib.hid c3At
  have HC0 := Lib.hid c0At
  have HC1 := Lib.hid c1At
  have HBX := Lib.hid boxAt
  have HLT := Lib.hid ltAt
  have HG := Lib.hid hg
  have HJ := Lib.hid hJ
  have HY := Lib.hid hY
  clear A0 c3At c0At c1At boxAt ltAt layAt hg hJ hY hc hlay hN hbx hsp hfar ht hU hL UB UG UX hz ha hs0 hs1
  refine callsIn_of_wp Try.func28 rfl trivial ?_ rfl
  simp only [Try.ntmps28, List.size_toArray, List.length_cons, List.length_nil, Nat.reduceAdd, Nat.reduceSub, Array.replicate_succ, Array.replicate_zero, List.push_toArray, List.append_toArray, List.nil_append, List.cons_append]
  have b0 := HBX.out W hk
  have c0 := HC0.out W hk
  gi_wp2_with (refine ⟨trivial, ?_⟩; gi_at_call 14; refine (callsIn_wide.2 (ctotal_at _ B t (HC3.out W hk))).mono ?_; rintro e wA ⟨rfl, rfl⟩)
  clear b0 c0
  gi_loopw [3] (fun j wr => ∃ i : Int, a ≤ i ∧ i ≤ z ∧ j = .int .i64 i ∧ J (lowP L i) wr ∧ KeepU U w wr) (fun j _ => (z - intOf j).toNat)
  case atStart => exact ⟨a, Int.le_refl _, hle, rfl, by rw [LF.out]; exact h0, hk⟩
  case round =>
    clear h0 hk
    obtain ⟨i, hi0, hi1, rfl, hJ1, hk1⟩ := hrel
    obtain ⟨x, hx⟩ : ∃ x, countP L i = x := ⟨_, rfl⟩
    have hx0 : 0 ≤ x := by rw [← hx]; exact (count_le_sum i (good_pos HG.out)).1
    have HX := Lib.hid hx
    have b1 := HBX.out wr hk1
    have hJ2 := Lib.hid hJ1
    have hk2 := Lib.hid hk1
    have i2 : -9223372036854775808 ≤ i := by omega
    have i3 : i < 9223372036854775808 := by omega
    clear hx hJ1 hk1
    have ATX := Lib.hid (callsIn_wide (n := n - 1).2 (HA.out wr i x hk2.out ⟨by omega, by omega⟩ HX.out))
    have c1 := HC1.out wr hk2.out
    by_cases hx1 : x = 0
    · subst hx1
      have LU := Lib.hid (low_up0 HG.out HX.out)
      by_cases he : i = z
      · subst he
        rw [LU.out] at LA
        refine wpIn_wide.2 ?_
        go_wp2_with fail
        refine (callsIn_wide.1 ATX.out).mono ?_
        rintro e w2 ⟨rfl, m, rfl⟩
        go_wp2_with fail
        refine bodyPost_ret (results_none rfl _ _ _) rfl ?_
        exact ⟨⟨_, rfl⟩, .inl ⟨L, rfl, by rw [← LA.out]; exact HJ.out _ _ _ hJ2.out (below_drewN (Below.refl _ _) _)⟩⟩
      · have he2 : (i == z) = false := by simp [he]
        refine wpIn_wide.2 ?_
        go_wp2_with fail
        refine (callsIn_wide.1 ATX.out).mono ?_
        rintro e w2 ⟨rfl, m, rfl⟩
        go_wp2_with fail
        go_roundw
        case rel => exact ⟨i + 1, by omega, by omega, rfl, by rw [LU.out]; exact HJ.out _ _ _ hJ2.out (below_drewN (Below.refl _ _) _), keepU_below hk2.out (HLT.out _ hk2.out) (below_drewN (Below.refl _ _) _)⟩
        case measure => simp [intOf]; omega
    · have hx2 : 0 < x := by omega
      have hx3 : (x == 0) = false := by simp [hx1]
      have LU := Lib.hid (low_up1 HG.out (i := i) (by rw [HX.out]; exact hx2))
      have LS := Lib.hid (low_less HG.out (i := i) (by rw [HX.out]; exact hx2))
      rw [HX.out] at LU
      have YY := Lib.hid fun m : Nat => HY.out (lowP L i) (i, x) (wr.drewN m) (HJ.out _ _ _ hJ2.out (below_drewN (Below.refl _ _) _)) LS.out
      have LP := Lib.hid (low_pre (i + 1) HG.out)
      rw [LU.out] at LP
      have hx4 : (x != 0) = true := by simp [hx1]
      by_cases he : i = z
      · subst he
        rw [LU.out] at LA
        gi_wp2_with (refine ⟨trivial, ?_⟩; gi_at_call 16; refine (ATX.out).mono ?_; rintro e w2 ⟨rfl, m, rfl⟩; obtain ⟨fn, tmps, assign, body, hy, hR⟩ := YY.out m; dsimp only [encPr] at hy)
        refine hR.mono ?_
        rintro e W3 (⟨rfl, hJ3, hk3⟩ | ⟨rfl, hJx3⟩)
        · have hk4 : KeepU U w W3 := fun k hk => (hk3 k hk).trans ((keepU_below hk2.out (HLT.out _ hk2.out) (below_drewN (Below.refl _ _) _)) k hk)
          have HK4 := Lib.hid hk4
          have HJ3 := Lib.hid hJ3
          have b3 := HBX.out W3 hk4
          have c3 := HC1.out W3 hk4
          clear hJ3 hk3 hk4
          gi_wp2
          refine bodyPost_ret (results_none rfl _ _ _) rfl ?_
          exact ⟨⟨_, rfl⟩, .inl ⟨L, rfl, by rw [← LA.out]; exact HJ3.out⟩⟩
        · gi_wp2
          refine bodyPost_ret (results_none rfl _ _ _) rfl ?_
          exact ⟨⟨_, rfl⟩, .inr ⟨_, LP.out, hJx3⟩⟩
      · have he2 : (i == z) = false := by simp [he]
        gi_wp2_with (refine ⟨trivial, ?_⟩; gi_at_call 16; refine (ATX.out).mono ?_; rintro e w2 ⟨rfl, m, rfl⟩; obtain ⟨fn, tmps, assign, body, hy, hR⟩ := YY.out m; dsimp only [encPr] at hy)
        refine hR.mono ?_
        rintro e W3 (⟨rfl, hJ3, hk3⟩ | ⟨rfl, hJx3⟩)
        · have hk4 : KeepU U w W3 := fun k hk => (hk3 k hk).trans ((keepU_below hk2.out (HLT.out _ hk2.out) (below_drewN (Below.refl _ _) _)) k hk)
          have HK4 := Lib.hid hk4
          have HJ3 := Lib.hid hJ3
          have b3 := HBX.out W3 hk4
          have c3 := HC1.out W3 hk4
          clear hJ3 hk3 hk4
          gi_wp2
          go_roundw
          case rel => exact ⟨i + 1, by omega, by omega, rfl, by rw [LU.out]; exact HJ3.out, HK4.out⟩
          case measure => simp [intOf]; omega
        · gi_wp2
          refine bodyPost_ret (results_none rfl _ _ _) rfl ?_
          exact ⟨⟨_, rfl⟩, .inr ⟨_, LP.out, hJx3⟩⟩

set_option maxRecDepth 100000 in
set_option maxHeartbeats 400000 in
/-- Of a crate without a count, of a nil one: nothing. -/
theorem all0_in (n : Nat) (l Bx : Nat) (c : Value) (J Jx : List PairV → World → Prop) (W : World) (hbx : W.cell? ⟨Bx, 0, none⟩ = some c)
    (hc : Calls Try.prog 14 #[c] W fun e w' => e = .returned (.int .u64 0) ∧ W = w') (h0 : J [] W) :
    CallsIn Fence.wide n Try.prog 28 #[.func (.yield l) #[] #[], .pointer (some ⟨Bx, 0, none⟩)] W fun e W' => (∃ v, e = .returned v) ∧
      ((∃ ys, ys = [] ∧ J ys W') ∨ (∃ pre, pre <+: [] ∧ Jx pre W')) := by
  have HC := Lib.hid hc
  clear hc
  refine callsIn_of_wp Try.func28 rfl trivial ?_ rfl
  simp only [Try.ntmps28, List.size_toArray, List.length_cons, List.length_nil, Nat.reduceAdd, Nat.reduceSub, Array.replicate_succ, Array.replicate_zero, List.push_toArray, List.append_toArray, List.nil_append, List.cons_append]
  refine wpIn_wide.2 ?_
  go_wp2_with fail
  refine HC.out.mono ?_
  rintro e w2 ⟨rfl, rfl⟩
  go_wp2_with fail
  refine bodyPost_ret (results_none rfl _ _ _) rfl ?_
  exact ⟨⟨_, rfl⟩, .inl ⟨[], rfl, h0⟩⟩

set_option maxHeartbeats 400000 in
theorem call_all (c : Option Addr) (w : World) :
    Calls Try.prog 18 #[.pointer c] w fun e w' => e = .returned (.func (.func 28) #[] #[.pointer (some ⟨w.heap.size, 0, none⟩)]) ∧ w' = w.alloc (.cells #[.pointer c] 24) := by
  go_enter Try.func18, Try.ntmps18
  go_wp2_with fail
  go_ret
  exact ⟨rfl, rfl⟩
theorem box_all (c : Value) (w : World) : (w.alloc (.cells #[c] 24)).cell? ⟨w.heap.size, 0, none⟩ = some c := cell_of_one (heap_alloc_new _ _)
theorem enters_all : ∀ args w, (callFunc 28 args).run Try.prog w = .ok (.enter 28 args) w :=
  enters_of Try.func28 (by kernel_rfl) rfl
theorem abides_below {n : Nat} {J : List PairV → World → Prop} (h : AbidesFrom n J) : ∀ s A A', J s A → Below A.heap.size A A' → J s A' :=
  fun s A A' hs hb => h s A A' none hs (grown_of_below hb) (fun r e => by cases e)

theorem call_goes (n : Nat) (w : World) (B : Nat) (S : Nat → Prop) (L : List PairV) (hn : 1 ≤ n) (h : CrX w B S L) : Calls Try.prog 18 #[.pointer (some ⟨B, 0, none⟩)] w (Goes n S L w) := by
  refine (call_all _ w).mono ?_
  rintro e w' ⟨rfl, rfl⟩
  have hbl : Below w.heap.size w (w.alloc (.cells #[.pointer (some ⟨B, 0, none⟩)] 24)) := (Below.refl _ _).alloc (Nat.le_refl _) _
  have hbx := box_all (.pointer (some ⟨B, 0, none⟩)) w
  have hlt := crx_lt _ _ _ _ h
  have h' := h
  obtain ⟨hc, ⟨rfl, h2, h3⟩ | ⟨h1, G, N, h2, h3, h4, h5⟩⟩ := h
  · refine ⟨_, _, fun k => k = w.heap.size ∨ k = B, rfl, enters_all, hbl, ?_, ?_⟩
    · intro k hk
      rw [World.size_alloc]
      rcases hk with rfl | rfl
      · exact ⟨Or.inr (Nat.le_refl _), by omega⟩
      · exact ⟨Or.inl ((h3 _).2 rfl), by have := hlt _ ((h3 _).2 rfl); omega⟩
    · intro l J Jx W hW _ _ _ h0
      have h4 := (h2.call hbl).call hW
      exact all0_in n l w.heap.size _ J Jx W (cell_later hW hbx) (ctotal_at _ B 0 h4.c3) h0
  · have hl := h2.call hbl
    refine ⟨_, _, fun k => k = w.heap.size ∨ k = B ∨ k = G, rfl, enters_all, hbl, ?_, ?_⟩
    · intro k hk
      rw [World.size_alloc]
      rcases hk with rfl | hk
      · exact ⟨Or.inr (Nat.le_refl _), by omega⟩
      · exact ⟨Or.inl ((h5 _).2 hk), by have := hlt _ ((h5 _).2 hk); omega⟩
    · intro l J Jx W hW hJ _ hY h0
      exact all1_in n hn l w.heap.size B G N (fun k => k = w.heap.size ∨ k = B ∨ k = G) _ (fun k => Iff.rfl) h1 hc hl h4 hbx J Jx (abides_below hJ) hY W
        (fun k hk => hW.block k (by
          rw [World.size_alloc]
          rcases hk with rfl | hk
          · omega
          · have := hlt _ ((h5 _).2 hk); omega)) h0
theorem nil_goes (n : Nat) (w : World) (hn : 1 ≤ n) : Calls Try.prog 18 #[.pointer none] w (Goes n (fun _ => False) [] w) := by
  refine (call_all _ w).mono ?_
  rintro e w' ⟨rfl, rfl⟩
  refine ⟨_, _, fun k => k = w.heap.size, rfl, enters_all, (Below.refl _ _).alloc (Nat.le_refl _) _, ?_, ?_⟩
  · intro k hk
    rw [World.size_alloc, hk]
    exact ⟨Or.inr (Nat.le_refl _), by omega⟩
  · intro l J Jx W hW _ _ _ h0
    exact all0_in n l w.heap.size _ J Jx W (cell_later hW (box_all (.pointer none) w)) (ctotal_none _) h0
theorem crate_all : CrateAll CrX := ⟨fun n w B S L hn h => call_goes n w B S L hn h⟩
end Go.Proofs.Ytggdmlldolaojaa
