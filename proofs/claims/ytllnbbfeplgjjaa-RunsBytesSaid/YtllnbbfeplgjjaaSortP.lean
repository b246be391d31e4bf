/-
  The library's slices.SortFunc at rows of pairs, sorted by their indexes.
-/
import Derived.Test.YtllnbbfeplgjjaaRunsK
import Derived.Test.YtllnbbfeplgjjaaRunsF
import Derived.Test.YtllnbbfeplgjjaaShelfP
import Derived.Shelf.SlSortCmp.NoneTotal
import Derived.Lib.OwnBridge
namespace Go.Proofs.Ytllnbbfeplgjjaa
set_option linter.unusedVariables false
set_option linter.unusedSimpArgs false
open Go.RowKit Go.Sort Go.Lib

def cfP (x y : PairV) : Int := cmpI x.1 y.1
theorem lt_cfP (x y : PairV) : ltOf cfP x y = decide (x.1 < y.1) := by
  unfold ltOf cfP
  by_cases h : x.1 < y.1
  · rw [decide_eq_true h, decide_eq_true (cmpI_neg.2 h)]
  · rw [decide_eq_false h, decide_eq_false (fun e => h (cmpI_neg.1 e))]
theorem swo_cfP : SWO (ltOf cfP) where
  irrefl x := by rw [lt_cfP]; simp
  trans x y z h1 h2 := by rw [lt_cfP] at *; simp at *; omega
  ntrans x y z h1 h2 := by rw [lt_cfP] at *; simp at *; omega

set_option maxHeartbeats 400000 in
theorem join_cmp (x y : PairV) (w : World) : Calls Try.prog 34 #[.agg #[.int .i64 x.1, .int .u64 x.2], .agg #[.int .i64 y.1, .int .u64 y.2]] w fun e w' => e = .returned (.int .i64 (cfP x y)) ∧ ∃ q os', w' = grow (w.drewN q) os' := by
  obtain ⟨x1, x2⟩ := x
  obtain ⟨y1, y2⟩ := y
  obtain ⟨r, hr⟩ : ∃ r, cmpI x1 y1 = r := ⟨_, rfl⟩
  have HC := Lib.hid (fun W => hr ▸ compare_int x1 y1 W)
  show Calls Try.prog 34 #[.agg #[.int .i64 x1, .int .u64 x2], .agg #[.int .i64 y1, .int .u64 y2]] w fun e w' => e = .returned (.int .i64 (cmpI x1 y1)) ∧ ∃ q os', w' = grow (w.drewN q) os'
  rw [hr]
  clear hr
  go_enter Try.func34, Try.ntmps34
  go_wp2_with fail
  refine (HC.out _).mono ?_
  rintro e w' ⟨rfl, rfl⟩
  go_wp2_with fail
  go_ret
  exact ⟨rfl, 0, _, by rw [alloc_eq_grow, alloc_eq_grow, grow_grow]; rfl⟩

theorem flat_at (d : Array PairV) (j : Nat) (hj : j < d.size) : (flatK cellsP 2 d)[j * 2]! = .int .i64 d[j]!.1 ∧ (flatK cellsP 2 d)[j * 2 + 1]! = .int .u64 d[j]!.2 := by
  rw [get_flatK _ _ _ _ (by omega), get_flatK _ _ _ _ (by omega), show j * 2 / 2 = j by omega, show j * 2 % 2 = 0 by omega, show (j * 2 + 1) / 2 = j by omega, show (j * 2 + 1) % 2 = 1 by omega]
  exact ⟨rfl, rfl⟩
theorem cellsQ_flat (L : List PairV) (j : Nat) (hj : j < L.length * 2) : (cellsQ L)[j]? = some (flatK cellsP 2 L.toArray)[j]! := by
  have hq := List.getElem?_eq_getElem (l := L) (i := j / 2) (by omega)
  have hg : L.toArray[j / 2]! = L[j / 2] := by rw [getElem!_pos L.toArray (j / 2) (by simp; omega)]; simp
  obtain ⟨q0, q1⟩ := cellsQ_at L (j / 2) _ hq
  obtain ⟨f0, f1⟩ := flat_at L.toArray (j / 2) (by simp; omega)
  rw [hg] at f0 f1
  rcases Nat.mod_two_eq_zero_or_one j with h2 | h2
  · have e1 : j / 2 * 2 = j := by omega
    rw [e1] at q0 f0; rw [q0, f0]
  · have e1 : j / 2 * 2 + 1 = j := by omega
    rw [e1] at q1 f1; rw [q1, f1]

/-- A row of the call's own, sorted: all its pairs, whose indexes do not fall; all below is as it was. -/
theorem sort_own (w w1 : World) (base : Nat) (v : Value) (L : List PairV) (h : OwnP w1 base v L) (ok : ∀ p, p ∈ L → okP p) (hb : Below base w w1) (hbs : base ≤ w1.heap.size) (hl : L.length ≤ 100000) :
    Calls Try.prog 33 #[v, .func (.func 34) #[] #[]] w1 fun e w' => e = .returned (.tuple #[]) ∧ ∃ A cap D, v = .slice A (List.length D) cap ∧ Pairs w' A D ∧ D.Perm L ∧ D.Pairwise (fun p q => p.1 ≤ q.1) ∧ Below base w w' ∧ base ≤ w'.heap.size := by
  obtain ⟨A, cap, rfl, hP⟩ := h.pairs ok
  by_cases hL : L = []
  · subst hL
    have hC := AnyF.slices_SortFunc_none Try.sortP A cap (.func (.func 34) #[] #[]) w1
    change Calls Try.prog 33 _ _ _ at hC
    refine hC.mono ?_
    rintro e w' ⟨rfl, rfl⟩
    exact ⟨rfl, A, cap, [], rfl, hP, List.Perm.refl _, List.Pairwise.nil, hb, hbs⟩
  · have h' : w1.ownsRow base 26 2 (.slice A L.length cap) L.length (cellsQ L) := h
    obtain ⟨g, rfl⟩ : ∃ g, A = some ⟨g, 0, none⟩ := by
      rcases h'.2 with ⟨e, e0⟩ | ⟨g, cap', cur, e, _⟩
      · exact absurd (List.eq_nil_of_length_eq_zero e0) hL
      · injection e with e1 _ _; exact ⟨g, e1⟩
    obtain ⟨hg1, hg2⟩ := h.lt g rfl
    have hsz : L.toArray.size = L.length := by simp
    have hH : HoldsK cellsP 2 w1 g 0 L.toArray := by
      intro j hj
      rw [size_flatK, hsz] at hj
      rw [Nat.zero_add]
      exact ⟨by rw [h'.cellAt j hj, cellsQ_flat L j hj]; rfl, h'.frozenAt j⟩
    have hcmp : CmpLays Try.prog 34 #[] cellsP 2 cfP g 0 L.toArray.size w1 := fun m os dk _ x y => join_cmp x y _
    have hC := AnyQ.slices_SortFunc Try.sortP 2 Try.isAgg26 Try.sizeOf26 cellsP (fun _ => rfl) (fun x v hv => by simp [cellsP] at hv; rcases hv with rfl | rfl <;> rfl) cfP swo_cfP 34 #[] g 0 cap L.toArray w1
      (enters_of Try.func34 (by kernel_rfl) rfl) hcmp hH hg2 (by rw [hsz]; omega)
    change Calls Try.prog 33 _ _ _ at hC
    rw [hsz] at hC
    refine hC.mono ?_
    rintro e w' ⟨rfl, d', n, os, hp, hs, rfl⟩
    have hd : d'.size = L.length := by rw [hp.1, hsz]
    have hperm : d'.toList.Perm L := by
      have h3 := hp.2.2
      rw [Array.extract_eq_self_of_le (by omega), Array.extract_eq_self_of_le (by rw [hsz]; exact Nat.le_refl _)] at h3
      exact h3
    have hpw : d'.toList.Pairwise (fun p q => p.1 ≤ q.1) := by
      rw [List.pairwise_iff_getElem]
      intro i j hi hj hij
      rw [Array.length_toList] at hi hj
      have h4 := hs i j (Nat.zero_le _) hij (by omega)
      rw [lt_cfP, getElem!_pos d' j hj, getElem!_pos d' i hi] at h4
      have := of_decide_eq_false h4
      simp only [Array.getElem_toList]; omega
    have hlen : d'.toList.length = L.length := by simpa using hd
    have hbw : Below base w (putRowK cellsP 2 (Sort.ahead w1 n) g 0 d') := Lib.below_putRow hb hg1
    have hbg : Below base w (sortWorldK cellsP 2 w1 g 0 n d' os) := ⟨hbw.os, hbw.tape, hbw.output, by show _ ≤ (grow _ os).heap.size; rw [size_grow]; have := hbw.size; omega, fun k hk => by
      have h5 := hbw.block k hk
      rw [← h5]
      exact heap_grow_old _ _ (by show k < (putRow id (Sort.ahead w1 n) g 0 _).heap.size; rw [size_putRow]; show k < w1.heap.size; omega)⟩
    have hbsz : (putRow id (Sort.ahead w1 n) g 0 (flatK cellsP 2 d')).heap.size = w1.heap.size := by rw [size_putRow]; rfl
    refine ⟨rfl, some ⟨g, 0, none⟩, cap, d'.toList, by rw [hlen], ⟨fun p hp => ok p (hperm.mem_iff.1 hp), fun j p hj => ?_⟩, hperm, hpw, hbg, ?_⟩
    · have hjl : j < d'.size := by
        rcases Nat.lt_or_ge j d'.size with h1 | h1
        · exact h1
        · rw [List.getElem?_eq_none (by simpa using h1)] at hj; cases hj
      have hjp : d'[j]! = p := by rw [getElem!_pos d' j hjl]; rw [List.getElem?_eq_getElem (by simpa using hjl)] at hj; simpa using hj
      have hcell : ∀ t, t < d'.size * 2 → (sortWorldK cellsP 2 w1 g 0 n d' os).cell? ⟨g, t, none⟩ = some (flatK cellsP 2 d')[t]! := fun t ht => by
        have h6 := cell?_putRow id (Sort.ahead w1 n) g 0 (flatK cellsP 2 L.toArray) (flatK cellsP 2 d') hH (by rw [size_flatK, size_flatK, hd, hsz]) t (by rw [size_flatK]; exact ht)
        rw [Nat.zero_add] at h6
        exact (cell?_grow _ os _ (by show g < (putRow id (Sort.ahead w1 n) g 0 _).heap.size; rw [size_putRow]; exact hg2)).trans h6
      obtain ⟨f0, f1⟩ := flat_at d' j hjl
      rw [hjp] at f0 f1
      refine ⟨g, 0, rfl, by show g < (grow _ os).heap.size; rw [size_grow]; show g < (putRow id (Sort.ahead w1 n) g 0 _).heap.size + os.size; rw [size_putRow]; show g < w1.heap.size + os.size; omega, ?_, ?_⟩
      · rw [Nat.zero_add, hcell _ (by omega), f0]
      · rw [Nat.zero_add, hcell _ (by omega), f1]
    · show base ≤ (grow _ os).heap.size
      rw [size_grow]
      show base ≤ (putRow id (Sort.ahead w1 n) g 0 (flatK cellsP 2 d')).heap.size + os.size
      rw [hbsz]; omega
end Go.Proofs.Ytllnbbfeplgjjaa
