/-
  Walks: Find of nothing; Pairs of whatever goes over a row.
-/
import Derived.Test.YtggdmlldolaojaaCrateJ
namespace Go.Proofs.Ytggdmlldolaojaa
set_option linter.unusedVariables false
set_option linter.unusedSimpArgs false
open Go.RowKit Go.Shelf
attribute [local go_sem] Oper.semAt_some

set_option maxRecDepth 100000 in
set_option maxHeartbeats 1000000 in
theorem cfind_zero (w : World) (c : Option Addr) :
    Calls Try.prog 19 #[.pointer c, .int .u64 0] w fun e w' => e = .returned (.tuple #[.int .i64 0, .bool false]) ∧ Below w.heap.size w w' := by
  go_enter Try.func19, Try.ntmps19
  go_wp2_with fail
  refine bodyPost_ret (v := .tuple #[.int .i64 0, .bool false]) (by simp [results, Try.results19, go_sem]) rfl ⟨rfl, ?_⟩
  exact ((((Below.refl _ _).alloc (Nat.le_refl _) _).alloc (by simp) _).alloc (by simp; omega) _)

/-- No more pairs than indexes from end to end. -/
theorem len_spread : ∀ {L : List PairV}, GoodP L → (L.length : Int) ≤ spreadP L + 1 := by
  intro L
  induction L with
  | nil => intro _; decide
  | cons p r ih =>
    intro h
    have h1 := ih (good_drop 1 h)
    cases r with
    | nil => show (1 : Int) ≤ _; unfold spreadP headP lastP; simp
    | cons q s =>
      have h2 : p.1 < q.1 := (List.pairwise_cons.1 h.2).1 q (by simp)
      have e1 : lastP (p :: q :: s) = lastP (q :: s) := by unfold lastP; rw [List.getLast?_cons_cons]
      have e2 : headP (p :: q :: s) = p.1 := rfl
      have e3 : headP (q :: s) = q.1 := rfl
      unfold spreadP at h1 ⊢
      rw [e1, e2]
      rw [e3] at h1
      simp only [List.length_cons] at h1 ⊢
      omega
theorem OwnP.own {w w' : World} {base : Nat} {v : Value} {L : List PairV} {row : Option Nat} (h : OwnP w base v L) (hg : w.grownBy w' row) (hr : ∀ r, row = some r → ∃ o : Obj, w.heap[r]? = some o ∧ o.isCells = false) : OwnP w' base v L :=
  h.other hg (by
    have h' : w.ownsRow base 31 2 v L.length (cellsQ L) := h
    rcases h'.2 with ⟨rfl, _⟩ | ⟨g, cap, cur, rfl, _, hgg, _⟩
    · exact Or.inl rfl
    · refine Or.inr fun e => ?_
      obtain ⟨o, ho, hc⟩ := hr g e.symm
      rw [hgg] at ho
      cases ho
      cases hc)
theorem OwnP.cells {w : World} {base : Nat} {v : Value} {L : List PairV} (h : OwnP w base v L) : ∀ (j : Nat) (o : Obj), v.ownBlock = some j → w.heap[j]? = some o → o.isCells = true := by
  intro j o hj ho
  have h' : w.ownsRow base 31 2 v L.length (cellsQ L) := h
  rcases h'.2 with ⟨rfl, _⟩ | ⟨g, cap, cur, rfl, _, hgg, _⟩
  · cases hj
  · cases hj
    rw [hgg] at ho
    cases ho
    rfl
/-- The row that grows, and the variable that holds it. -/
structure Grow (w : World) (B base : Nat) (L : List PairV) : Prop where
  ex : ∃ v, w.heap[B]? = some (.cells #[v] 22 (0, 0)) ∧ OwnP w base v L
theorem Grow.own {w w' : World} {B base : Nat} {L : List PairV} {row : Option Nat} (h : Grow w B base L) (hg : w.grownBy w' row) (hr : ∀ r, row = some r → ∃ o : Obj, w.heap[r]? = some o ∧ o.isCells = false) : Grow w' B base L := by
  obtain ⟨v, h1, h2⟩ := h.ex
  refine ⟨v, ?_, h2.own hg hr⟩
  rw [hg.block B (lt_of_block h1) (fun e => by
    obtain ⟨o, ho, hc⟩ := hr B e.symm
    rw [h1] at ho; cases ho; cases hc)]
  exact h1

/-- Appending one pair within a fence. -/
theorem wpListIn_append_pair {F : Fence} {n : Nat} {w : World} {ops : Array Oper} {rest : List Oper} {o : Oper} {a : Act} {Q : Exit → Act → World → Prop} (hgd : o.guard = none) (s x : Operand)
    (ho : o.op = .call { callee := .builtin .append, args := #[s, x], argTypes := #[22, 22] })
    (base : Nat) (v : Value) (L : List PairV) (g : Nat) (p : PairV) (hs : a.eval s = v) (hown : OwnP w base v L)
    (hx : a.eval x = .slice (some ⟨g, 0, none⟩) 1 1) (h0 : w.cell? ⟨g, 0, none⟩ = some (.int .i64 p.1)) (h1 : w.cell? ⟨g, 1, none⟩ = some (.int .u64 p.2)) (hn : L.length ≤ 100000) (hbase : base ≤ w.heap.size)
    (h : ∀ v' w', OwnP w' base v' (L ++ [p]) → w.grownBy w' v.ownBlock → wpListIn F n Try.prog ops Q rest (a.put o.dst v') w') : wpListIn F n Try.prog ops Q (o :: rest) a w := by
  obtain ⟨i0, hi, hz0, hz1, hz2⟩ := info_parts Try.infoPair
  refine wpListIn_append_own w hgd s x _ ho base _ i0 _ 2 16 Try.underlying22 hi hz0 hz1 hz2 rfl (by decide) v L.length (cellsQ L) hs hown ⟨g, 0, none⟩ 1 1 (cellsQ [p]) hx (cellsQ_len [p]) ?_ (cellsQ_one [p])
      (by unfold maxLen; omega) (by omega) hbase (fun v' w' h1 h2 _ => h v' w' ?_ h2)
  · intro j u hu
    rw [cellsQ_one'] at hu
    rw [add_flat]
    match j, hu with
    | 0, hu => simp at hu; subst hu; exact h0
    | 1, hu => simp at hu; subst hu; exact h1
  · unfold OwnP
    rw [cellsQ_app, List.length_append]
    exact h1

set_option maxRecDepth 1000000 in
set_option maxHeartbeats 4000000 in
theorem cpairs_in (w : World) (c : Option Addr) (S : Nat → Prop) (L : List PairV) (hS : ∀ k, S k → k < w.heap.size) (hl : L.length ≤ 4096)
    (hall : ∀ w', Below w.heap.size w w' → Calls Try.prog 18 #[.pointer c] w' (Goes 7 S L w')) :
    CallsIn Fence.wide 8 Try.prog 13 #[.pointer c] w fun e w' => ∃ v, e = .returned v ∧ OwnP w' w.heap.size v L ∧ Below w.heap.size w w' := by
  have HS := Lib.hid hS
  have HAL := Lib.hid hall
  clear hS hall
  obtain ⟨wz, hwz⟩ : ∃ wz, w.alloc (.cells #[.slice none 0 0] 22) = wz := ⟨_, rfl⟩
  have bz : Below w.heap.size w wz := by rw [← hwz]; exact (Below.refl _ _).alloc (Nat.le_refl _) _
  have uz : wz.heap[w.heap.size]? = some (.cells #[.slice none 0 0] 22 (0, 0)) := by rw [← hwz]; exact heap_alloc_new _ _
  have zz : wz.heap.size = w.heap.size + 1 := by rw [← hwz]; simp
  have HZZ := Lib.hid zz
  have HUZ := Lib.hid uz
  have HBZ := Lib.hid bz
  clear bz uz zz
  refine callsIn_of_wp_marks Try.func13 rfl trivial ?_ rfl
  refine wpIn_wide.2 ?_
  simp only [Try.ntmps13, List.size_toArray, List.length_cons, List.length_nil, Nat.reduceAdd, Nat.reduceSub, Array.replicate_succ, Array.replicate_zero, List.push_toArray, List.append_toArray, List.nil_append, List.cons_append]
  go_wp2_with fail
  clear hwz
  refine (HAL.out wz HBZ.out).mono ?_
  rintro e wa ⟨gf, lb, U, rfl, heg, hba, hU, hseq⟩
  have U1 : Grow wa w.heap.size wa.heap.size [] := ⟨_, (hba.block _ (by rw [HZZ.out]; omega)).trans HUZ.out, OwnP.nil _ _⟩
  have BA := HBZ.out.trans (hba.mono (by rw [HZZ.out]; omega))
  have za := hba.size
  rw [HZZ.out] at za
  have hUr : ∀ k, U k → k < wa.heap.size ∧ (k < w.heap.size ∨ w.heap.size + 1 ≤ k) := fun k hk => by
    have h1 := hU k hk
    have h2 := HZZ.out
    rcases h1.1 with h | h
    · have := HS.out k h; omega
    · omega
  have HEG := Lib.hid heg
  have HSQ := Lib.hid hseq
  have HU := Lib.hid hUr
  clear heg hseq hU hUr hba
  go_wp2_with fail
  refine (wpIn_wide (n := 8)).1 ?_
  refine wpIn_rangeFunc_ownH rfl (by omega) (gf := gf) (lb := lb) rfl trivial HEG.out HSQ.out keepU_t (keepU_b (fun k hk => (HU.out k hk).1)) (Below.refl _ _) (fun _ => rfl)
    (fun pre W => Grow W w.heap.size wa.heap.size pre ∧ Below w.heap.size w W)
    (fun c pre W => False)
    (OwnFrom.and (Own.from (fun s A B row hs hg hr => hs.own hg hr) _) (ownFrom_below (Nat.le_refl _) (by omega)))
    (fun c s W W' row hs hg hr => hs)
    ⟨U1, BA⟩
    (fun x a' W => a' = { tmps := #[.pointer c, undef, .slice none 0 0, .pointer (some ⟨w.heap.size, 0, none⟩), .int .i64 x.1, .int .u64 x.2, .pointer c, .func (.func gf) #[] lb, .int .i64 x.1, .int .u64 x.2, undef, undef, undef, undef, undef, undef, undef], defers := [] })
    (fun x a' _ X Y row hs hg hr => hs)
    ?assign ?body ?done ?stop
  case assign =>
    rintro l pre ⟨x1, x2⟩ W K hI hK
    simp only [encPr]
    gi_wp2
    exact hK _ _ ((KeepsOthers.refl W).from _) (fun _ _ => rfl) hI rfl
  case body =>
    rintro l pre ⟨x1, x2⟩ a' W hl ⟨rl, hrl⟩ ⟨hG, hB⟩ rfl hlt
    obtain ⟨v, hv, ho⟩ := hG.ex
    have c0 := cell_of_one hv
    have f0 := free_of_one hv
    have HO := Lib.hid ho
    have HV := Lib.hid hv
    have hlen : Hid (pre.length ≤ 100000) := Lib.hid (by omega)
    clear hv ho hG hlt
    have hbs := hB.size
    have hws : wa.heap.size ≤ W.heap.size := by have := lt_of_block hrl; omega
    have hblt := lt_of_block HV.out
    gi_wp2_with (refine wpListIn_append_pair (o := ⟨some 15, _, _, _, _, _⟩) rfl _ _ rfl wa.heap.size _ _ W.heap.size (x1, x2) rfl (HO.out.alloc _) rfl ?c1 ?c2 ?c3 ?c4 ?_)
    case c3 => exact hlen.out
    case c4 => simp; omega
    intro v' w1 hown' hgrow
    have hne : ∀ g, v.ownBlock = some g → wa.heap.size ≤ g := fun g hg => (HO.out.lt g hg).1
    have hB1 : w1.heap[w.heap.size]? = some (.cells #[v] 22 (0, 0)) := by
      rw [hgrow.block _ (by simp; omega) (fun e => by have := hne _ e.symm; omega), Below.heap_alloc _ _ _ hblt]
      exact HV.out
    have hBel := (hB.alloc hbs (.cells #[.int .i64 x1, .int .u64 x2] 31)).grown hgrow (by simp; omega) (fun k hk => by have := hne k hk; omega)
    have hkeep : ∀ k, U k → w1.heap[k]? = W.heap[k]? := fun k hk => by
      have h1 := (HU.out k hk).1
      rw [hgrow.block k (by simp; omega) (fun e => by have := hne _ e.symm; omega), Below.heap_alloc _ _ _ (by omega)]
    have hoth := (KeepsOthers.alloc W (.cells #[.int .i64 x1, .int .u64 x2] 31)).trans (KeepsOthers.of_grownBy hgrow (fun j o hj ho => (HO.out.alloc _).cells j o hj ho))
    obtain ⟨A', cap', rfl⟩ := hown'.form
    have hne2 : (Value.slice A' (pre ++ [(x1, x2)]).length cap').ownBlock ≠ some w.heap.size := fun e => by have := (hown'.lt _ e).1; omega
    have c1 := cell_of_one hB1
    have f1 := free_of_one hB1
    have HB1 := Lib.hid hB1
    have HBEL := Lib.hid hBel
    have HKP := Lib.hid hkeep
    have HOT := Lib.hid hoth
    have HO2 := Lib.hid hown'
    have HN2 := Lib.hid hne2
    generalize (pre ++ [(x1, x2)]).length = nn at *
    clear hB1 hBel hkeep hoth hown' hgrow hne hne2 hB hrl
    gi_wp2
    refine ⟨(HOT.out.trans (KeepsOthers.setCell _ _ _)).from _, fun k hk => ?_, ⟨⟨_, one_setCell HB1.out, ownsRow_setCell_other HO2.out HN2.out _⟩⟩, HBEL.out.setCell (p := ⟨w.heap.size, 0, none⟩) (Nat.le_refl _) _⟩
    rw [Below.heap_setCell _ _ _ _ (by have := HU.out k hk; show k ≠ w.heap.size; omega)]
    exact HKP.out k hk
  case done =>
    rintro D ys W hD rfl ⟨hG, hB⟩ hK
    obtain ⟨v, hv, ho⟩ := hG.ex
    have c0 := cell_of_one hv
    have HO := Lib.hid (own_mono7 ho (show w.heap.size ≤ wa.heap.size by omega))
    have HKD := Lib.hid hK
    clear hG hv ho hK
    go_wp2_with fail
    refine ⟨by simp, .inl ⟨_, _, rfl, run_takeDeferred HKD.out, ?_⟩⟩
    have hB2 := hB.trans (belowK_b (w := w) (Nat.le_refl _) _ D _ (.deferred none) (by omega) HKD.out rfl rfl)
    exact ⟨_, by simp [results, Try.f13, go_sem], _, rfl, OwnP.own HO.out (grownBy_putObj' _ D (.deferred none)) (fun r e => by cases e; exact ⟨_, HKD.out, rfl⟩), hB2⟩
  case stop =>
    rintro D c pre W hD hpre ⟨⟩
end Go.Proofs.Ytggdmlldolaojaa
