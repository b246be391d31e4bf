/-
  Walks: package lowcap: Merge.
-/
import Derived.Test.YtoegjncccahmlaaLowQ
import Derived.Test.YtoegjncccahmlaaBack
namespace Go.Proofs.Ytoegjncccahmlaa
set_option linter.unusedVariables false
set_option linter.unusedSimpArgs false
open Go.RowKit Go.Shelf
attribute [local go_sem] Oper.semAt_some

set_option maxHeartbeats 1000000 in
theorem lmerge_nil (w : World) :
    Calls Try.prog 29 #[.pointer none, .pointer none] w fun e w' => e = .returned (.int .i64 2) ∧ Below w.heap.size w w' := by
  have hb : Below w.heap.size w (w.alloc (.cells #[.pointer none] 25)) := (Below.refl _ _).alloc (Nat.le_refl _) _
  go_enter Try.func29, Try.ntmps29
  go_wp2_with fail
  go_ret
  exact ⟨rfl, hb⟩
set_option maxHeartbeats 1000000 in
theorem lmerge_none (w : World) (B : Nat) :
    Calls Try.prog 29 #[.pointer (some ⟨B, 0, none⟩), .pointer none] w fun e w' => e = .returned (.int .i64 2) ∧ Below w.heap.size w w' := by
  have hb : Below w.heap.size w (w.alloc (.cells #[.pointer (some ⟨B, 0, none⟩)] 25)) := (Below.refl _ _).alloc (Nat.le_refl _) _
  go_enter Try.func29, Try.ntmps29
  go_wp2_with fail
  go_ret
  exact ⟨rfl, hb⟩
/-- A pointer laid in a box of its own. -/
theorem ptr_box (w : World) (v : Value) (t : TypeId) : ∃ X, w.alloc (.cells #[v] t) = X ∧ Below w.heap.size w X ∧ X.heap.size = w.heap.size + 1 ∧ X.heap[w.heap.size]? = some (.cells #[v] t (0, 0)) :=
  ⟨_, rfl, (Below.refl _ _).alloc (Nat.le_refl _) _, by simp, heap_alloc_new _ _⟩
theorem one_cell {w : World} {B : Nat} {x : Value} {t : TypeId} (h : w.heap[B]? = some (.cells #[x] t (0, 0))) : w.cell? ⟨B, 0, none⟩ = some x := by
  rw [Joins.cell_of_block h]; rfl
set_option maxHeartbeats 1000000 in
theorem lmerge_other (w : World) (B B' : Nat) (m m' : Int) (h : w.cell? ⟨B, 0, none⟩ = some (.int .i64 m)) (h' : w.cell? ⟨B', 0, none⟩ = some (.int .i64 m')) (hm : m ≠ m') :
    Calls Try.prog 29 #[.pointer (some ⟨B, 0, none⟩), .pointer (some ⟨B', 0, none⟩)] w fun e w' => e = .returned (.int .i64 8) ∧ Below w.heap.size w w' := by
  obtain ⟨X, hX, hb, hz, hx⟩ := ptr_box w (.pointer (some ⟨B, 0, none⟩)) 25
  have x0 := one_cell hx
  have g0 := cell_later hb h
  have g1 := cell_later hb h'
  have hm2 : (m == m') = false := by simp [hm]
  have HB := Lib.hid hb
  clear h h' hb hz hx hm
  go_enter Try.func29, Try.ntmps29
  go_wp2_with fail
  go_quiet (fail)
  go_wp2_with fail
  go_ret
  exact ⟨rfl, below_drewN HB.out _⟩

/-- What a call leaves alone that keeps to blocks of cells. -/
theorem keeps_others {S : Nat → Prop} {w w' : World} (h : Keeps S w w') (hc : ∀ k, S k → k < w.heap.size → ∃ cs t z, w.heap[k]? = some (.cells cs t z)) : KeepsOthers w w' := by
  refine ⟨h.size, fun k o hk ho => ?_⟩
  obtain ⟨hlt, _⟩ := Array.getElem?_eq_some_iff.1 hk
  refine (h.block k hlt (fun hs => ?_)).trans hk
  obtain ⟨cs, t, z, he⟩ := hc k hs hlt
  rw [hk] at he
  cases he
  cases ho

/-- The pairs in the order in which they come. -/
def prs (L : List PairV) (pre : List (Fin L.length)) : List PairV := pre.map fun k => L[k.1]
theorem prs_snoc (L : List PairV) (pre : List (Fin L.length)) (x : Fin L.length) : prs L (pre ++ [x]) = prs L pre ++ [L[x.1]] := by unfold prs; rw [List.map_append]; rfl
theorem prs_all (L : List PairV) : prs L (bkL L) = L.reverse := by
  unfold prs bkL
  rw [List.map_reverse]
  congr 1
  apply List.ext_getElem
  · simp
  · intro i h1 h2
    simp
theorem prs_part {L : List PairV} {pre : List (Fin L.length)} (h : pre <+: bkL L) (hp : ∀ p, p ∈ L → 0 ≤ p.2) : sumP (prs L pre) ≤ sumP L := by
  obtain ⟨r, hr⟩ := h
  have e := prs_all L
  rw [← hr] at e
  unfold prs at e
  rw [List.map_append] at e
  have h1 := sumP_app (prs L pre) (prs L r)
  have h2 : sumP (prs L pre ++ prs L r) = sumP L := by
    have : prs L pre ++ prs L r = L.reverse := e
    rw [this, sumP_rev]
  have h3 : 0 ≤ sumP (prs L r) := sumP_pos fun p hq => by
    obtain ⟨k, _, rfl⟩ := List.mem_map.1 hq
    exact hp _ (List.getElem_mem _)
  omega
theorem prs_each {L : List PairV} (hg : GoodP L) (ho : ∀ p, p ∈ L → okP p) (pre : List (Fin L.length)) : ∀ p, p ∈ prs L pre → okP p ∧ 0 < p.2 := fun p hq => by
  obtain ⟨k, _, rfl⟩ := List.mem_map.1 hq
  exact good_each hg ho _ (List.getElem_mem _)
/-- How a merging stands. -/
def MI (St : World → Nat → (Nat → Prop) → Int → List PairV → Prop) (w : World) (n0 B : Nat) (S : Nat → Prop) (m : Int) (K K' : List PairV) (ls : Int) (pre : List (Fin K'.length)) (W : World) : Prop :=
  ∃ S1 K1 l1, LowRaw St W B S1 m K1 l1 ∧ Word l1 ∧ K1.length ≤ K.length + pre.length ∧ (∀ j, S1 j → S j ∨ n0 ≤ j) ∧ W.cell? ⟨w.heap.size, 0, none⟩ = some (.pointer (some ⟨B, 0, none⟩)) ∧ Keeps S w W ∧ n0 ≤ W.heap.size ∧
    (pre <+: bkL K' → K1 = keepP m (joinP K (prs K' pre)) ∧ l1 = ls + sumP K + sumP (prs K' pre) - sumP K1)
theorem keeps_grown9 {S : Nat → Prop} {w W W' : World} {row : Option Nat} (h : Keeps S w W) (hg : W.grownBy W' row) (hr : ∀ r, row = some r → w.heap.size ≤ r) : Keeps S w W' :=
  ⟨hg.os.trans h.os, hg.tape.trans h.tape, hg.output.trans h.output, Nat.le_trans h.size hg.size, fun k hk hn => (hg.block k (Nat.lt_of_lt_of_le hk h.size) (fun e => by have := hr k e.symm; omega)).trans (h.block k hk hn)⟩
theorem raw_grown {St : World → Nat → (Nat → Prop) → Int → List PairV → Prop} (D : StripDoes St) {W W' : World} {B : Nat} {S : Nat → Prop} {m l : Int} {K : List PairV} {row : Option Nat} (h : LowRaw St W B S m K l) (hg : W.grownBy W' row) (hr : ∀ r, row = some r → ∃ o : Obj, W.heap[r]? = some o ∧ o.isCells = false) : LowRaw St W' B S m K l := by
  refine raw_keep D h fun k hk => hg.block k (raw_lt D h k hk) (fun e => ?_)
  obtain ⟨cs, t, z, he⟩ := raw_cells D h k hk
  obtain ⟨o, ho, hc⟩ := hr k e.symm
  rw [he] at ho
  cases ho
  cases hc
theorem mi_own {St : World → Nat → (Nat → Prop) → Int → List PairV → Prop} (D : StripDoes St) (w : World) (n0 B : Nat) (S : Nat → Prop) (m : Int) (K K' : List PairV) (ls : Int) (h0 : w.heap.size ≤ n0) : OwnFrom n0 (MI St w n0 B S m K K' ls) := by
  intro pre W W' row hs hg hr
  obtain ⟨S1, K1, l1, h1, h2, h3, h4, h5, h6, h7, h8⟩ := hs
  exact ⟨S1, K1, l1, raw_grown D h1 hg (fun r e => (hr r e).2), h2, h3, h4, cell_kept h5 hg (fun r e => (hr r e).2), keeps_grown9 h6 hg (fun r e => Nat.le_trans h0 (hr r e).1), Nat.le_trans h7 hg.size, h8⟩
theorem mi_alloc {St : World → Nat → (Nat → Prop) → Int → List PairV → Prop} (D : StripDoes St) {w : World} {n0 B : Nat} {S : Nat → Prop} {m : Int} {K K' : List PairV} {ls : Int} {pre : List (Fin K'.length)} {W : World} (h : MI St w n0 B S m K K' ls pre W) (h0 : w.heap.size ≤ n0) (o : Obj) : MI St w n0 B S m K K' ls pre (W.alloc o) :=
  mi_own D w n0 B S m K K' ls h0 pre W _ none h (World.grownBy_alloc W o none) (fun r e => by cases e)
/-- A round of it. -/
theorem mi_step {St : World → Nat → (Nat → Prop) → Int → List PairV → Prop} {w : World} {n0 B : Nat} {S : Nat → Prop} {m : Int} {K K' : List PairV} {ls T T' : Int} {pre : List (Fin K'.length)} {x : Fin K'.length} {W W' : World} {S1 : Nat → Prop} {K1 : List PairV} {l1 : Int}
    (hp : Lwp m K T) (hp' : Lwp m K' T') (hls : ls = (T - sumP K) + (T' - sumP K')) (hs : T + T' ≤ 9223372036854775807) (h3 : K1.length ≤ K.length + pre.length) (h4 : ∀ j, S1 j → S j ∨ n0 ≤ j) (h5 : W.cell? ⟨w.heap.size, 0, none⟩ = some (.pointer (some ⟨B, 0, none⟩))) (h6 : Keeps S w W) (h7 : n0 ≤ W.heap.size)
    (h8 : pre <+: bkL K' → K1 = keepP m (joinP K (prs K' pre)) ∧ l1 = ls + sumP K + sumP (prs K' pre) - sumP K1) (hn0 : w.heap.size < n0) (hS : ∀ j, S j → j < w.heap.size)
    (hput : PutW St W B S1 m K1 l1 (K'[x.1]).1 (K'[x.1]).2 W') : MI St w n0 B S m K K' ls (pre ++ [x]) W' := by
  obtain ⟨S2, K2, l2, hr, hk, hS2, hw, hlen, hcase⟩ := hput
  have hS3 : ∀ j, S2 j → S j ∨ n0 ≤ j := fun j hj => by
    rcases hS2 j hj with h | h
    · exact h4 j h
    · exact Or.inr (by omega)
  refine ⟨S2, K2, l2, hr, hw, by rw [List.length_append, List.length_singleton]; omega, hS3, hk.cell (fun h => ?_) h5, h6.trans hk (fun j hj => ?_), Nat.le_trans h7 hk.size, fun hpre => ?_⟩
  · rcases h4 _ h with h | h
    · have := hS _ h; omega
    · omega
  · rcases h4 j hj with h | h
    · exact Or.inl h
    · exact Or.inr (by omega)
  · have hpre0 : pre <+: bkL K' := List.IsPrefix.trans (List.prefix_append _ _) hpre
    obtain ⟨e1, e2⟩ := h8 hpre0
    have hm : 0 < m := by have := hp.m1; omega
    have hx := good_each hp'.good hp'.ok _ (List.getElem_mem x.2)
    have hpart := prs_part hpre (ok_pos hp'.ok)
    rw [prs_snoc, sumP_app, sumP_one] at hpart
    have hpart0 := prs_part hpre0 (ok_pos hp'.ok)
    have hq := hp.sum
    have hq' := hp'.sum
    have J := join_facts (prs K' pre) K hp.good hp.ok (prs_each hp'.good hp'.ok pre) (by omega)
    have hks := keep_sum m (ok_pos J.ok)
    have hJs := J.sum
    have hcn := count_le_sum (K'[x.1]).1 (ok_pos J.ok)
    rw [← e1] at hks
    obtain ⟨f1, f2⟩ := put_eq hcase (by rw [e1]; exact keep_good J.good) (by rw [e1]; exact keep_ok J.ok) (by rw [e1]; exact keep_idem hm J.good) hx.1.1 hx.2 hp.m1 (by omega) (by omega)
    have f3 : keepP m (addP K1 (K'[x.1]).1 (K'[x.1]).2) = keepP m (joinP K (prs K' (pre ++ [x]))) := by
      rw [prs_snoc, join_snoc, e1]
      exact keep_add hm J.good (by omega) hx.2
    refine ⟨f1.trans f3, ?_⟩
    rw [f2, f1, prs_snoc, sumP_app, sumP_one]
    omega
theorem putObj_keeps {S : Nat → Prop} {w W : World} (h : Keeps S w W) {D : Nat} (o : Obj) (hD : w.heap.size ≤ D) : Keeps S w (W.putObj D o) :=
  keeps_grown9 h (grownBy_putObj' W D o) (fun r e => by cases e; exact hD)
/-- What comes of it. -/
theorem mi_done {St : World → Nat → (Nat → Prop) → Int → List PairV → Prop} {w : World} {n0 B : Nat} {S : Nat → Prop} {m : Int} {K K' : List PairV} {ls T T' : Int} {W : World} (hp : Lwp m K T) (hp' : Lwp m K' T') (hls : ls = (T - sumP K) + (T' - sumP K')) (hs : T + T' ≤ 9223372036854775807) (hn0 : w.heap.size ≤ n0)
    (h : MI St w n0 B S m K K' ls (bkL K') W) : ∃ S2, LowRaw St W B S2 m (keepP m (joinP K K')) (T + T' - sumP (keepP m (joinP K K'))) ∧ Keeps S w W ∧ (∀ k, S2 k → S k ∨ w.heap.size ≤ k) := by
  obtain ⟨S1, K1, l1, h1, h2, h3, h4, h5, h6, h7, h8⟩ := h
  obtain ⟨e1, e2⟩ := h8 (List.prefix_refl _)
  have hq := hp.sum
  have hq' := hp'.sum
  rw [prs_all, join_rev hp.good hp.ok (good_each hp'.good hp'.ok) (by omega)] at e1
  rw [prs_all, sumP_rev] at e2
  refine ⟨S1, ?_, h6, fun k hk => ?_⟩
  · rw [← e1]
    rwa [show T + T' - sumP K1 = l1 by omega]
  · rcases h4 k hk with h | h
    · exact Or.inl h
    · exact Or.inr (by omega)

set_option maxRecDepth 1000000 in
set_option maxHeartbeats 4000000 in
theorem lmerge_in {St : World → Nat → (Nat → Prop) → Int → List PairV → Prop} (D : StripDoes St) (w : World) (B : Nat) (S : Nat → Prop) (m : Int) (K : List PairV) (T : Int) (B' : Nat) (S' : Nat → Prop) (K' : List PairV) (T' : Int) (h : LowX St w B S m K T) (h' : LowX St w B' S' m K' T') (hd : B' = B ∨ ∀ k, S k → ¬ S' k) (hl : K.length ≤ 300) (hl' : K'.length ≤ 300) (hs : T + T' ≤ 9223372036854775807) :
    CallsIn Fence.wide 8 Try.prog 29 #[.pointer (some ⟨B, 0, none⟩), .pointer (some ⟨B', 0, none⟩)] w fun e w' => e = .returned (.int .i64 0) ∧ ∃ S2, LowRaw St w' B S2 m (keepP m (joinP K K')) (T + T' - sumP (keepP m (joinP K K'))) ∧ Keeps S w w' ∧ (∀ k, S2 k → S k ∨ w.heap.size ≤ k) := by
  have HD := Lib.hid D
  have HX := Lib.hid h
  have HX' := Lib.hid h'
  obtain ⟨hp, C, S0, hb, hst, hn, hS⟩ := id h
  obtain ⟨hp', C', S0', hb', hst', hn', hS'⟩ := id h'
  obtain ⟨c0, c1, c2⟩ := three_cells hb
  obtain ⟨c0', c1', c2'⟩ := three_cells hb'
  obtain ⟨X, hX, bX, zX, hx⟩ := ptr_box w (.pointer (some ⟨B, 0, none⟩)) 25
  have HP := Lib.hid hp
  have HP' := Lib.hid hp'
  have tt := hp.top
  have tt' := hp'.top
  have t0 : 0 ≤ T := by have := hp.pos; have := hp.sum; omega
  have t0' : 0 ≤ T' := by have := hp'.pos; have := hp'.sum; omega
  have HT : Hid (∀ w', Below w.heap.size w w' → Calls Try.prog 18 #[.pointer (some ⟨B, 0, none⟩)] w' fun e w'' => e = .returned (.int .u64 T) ∧ Below w'.heap.size w' w'') := Lib.hid (fun w' hw => ltotal_raw D ⟨h.1, raw_call D h.2 hw⟩ (by omega))
  have HT' : Hid (∀ w', Below w.heap.size w w' → Calls Try.prog 18 #[.pointer (some ⟨B', 0, none⟩)] w' fun e w'' => e = .returned (.int .u64 T') ∧ Below w'.heap.size w' w'') := Lib.hid (fun w' hw => ltotal_raw D ⟨h'.1, raw_call D h'.2 hw⟩ (by omega))
  have x0 := one_cell hx
  have g0 := cell_later bX c0
  have g0' := cell_later bX c0'
  obtain ⟨l, hll⟩ : ∃ l, T - sumP K = l := ⟨_, rfl⟩
  obtain ⟨l', hll'⟩ : ∃ l', T' - sumP K' = l' := ⟨_, rfl⟩
  rw [hll] at c2
  rw [hll'] at c2'
  have hl0 : 0 ≤ l := by have := hp.sum; omega
  have hl0' : 0 ≤ l' := by have := hp'.sum; omega
  have hl1 : l + l' ≤ 9223372036854775807 := by have := hp.pos; have := hp'.pos; omega
  have u1 : IntKind.u64.wrap (l + l') = l + l' := by rw [IntKind.wrap_u64]; omega
  obtain ⟨pb, pq⟩ := plus2_yes (x := T) (y := T') hs
  have PB := Lib.hid pb
  have PQ := Lib.hid pq
  have HBX := Lib.hid bX
  have HZX := Lib.hid zX
  have HXB := Lib.hid hx
  have HLL := Lib.hid hll
  have HLL' := Lib.hid hll'
  have HB := Lib.hid hb
  have HB' := Lib.hid hb'
  have HDJ := Lib.hid hd
  have HL := Lib.hid hl
  have HL' := Lib.hid hl'
  have HSM := Lib.hid hs
  clear D h h' hp hp' hb hb' hst hst' hn hn' hS hS' bX hx hll hll' pb pq hd hl hl' zX
  refine callsIn_of_wp_marks Try.func29 rfl trivial ?_ rfl
  refine wpIn_wide.2 ?_
  simp only [Try.ntmps29, List.size_toArray, List.length_cons, List.length_nil, Nat.reduceAdd, Nat.reduceSub, Array.replicate_succ, Array.replicate_zero, List.push_toArray, List.append_toArray, List.nil_append, List.cons_append]
  go_wp2_with fail
  go_quiet (fail)
  have b1 := below_drewN HBX.out nq
  have HB1 := Lib.hid b1
  clear hX g0 g0' c0 c0'
  go_wp2_with fail
  refine (HT.out _ HB1.out).mono ?_
  rintro e w2 ⟨rfl, b2⟩
  have hb2 := HB1.out.trans (b2.mono HB1.out.size)
  have HB2 := Lib.hid hb2
  clear hb2
  go_wp2_with fail
  refine (HT'.out _ HB2.out).mono ?_
  rintro e w3 ⟨rfl, b3⟩
  have hb3 := HB2.out.trans (b3.mono HB2.out.size)
  have hbx3 : Below X.heap.size X w3 := (below_drewN (Below.refl _ _) nq).trans ((b2.mono (below_drewN (Below.refl X.heap.size X) nq).size).trans (b3.mono (Nat.le_trans (below_drewN (Below.refl X.heap.size X) nq).size b2.size)))
  have HB3 := Lib.hid hb3
  have HX3 := Lib.hid hbx3
  clear hb3 hbx3 b2 b3 b1
  go_wp2_with fail
  refine (plus_two T T' (T + T') true _ _ _ ⟨by omega, by omega⟩ ⟨by omega, by omega⟩ (two_words w3 _ _ _).1 (two_words w3 _ _ _).2 PQ.out PB.out).mono ?_
  rintro e w4 ⟨rfl, rfl⟩
  obtain ⟨Y, hY⟩ : ∃ Y, w3.alloc (.cells #[.int .u64 T, .int .u64 T'] 32) = Y := ⟨_, rfl⟩
  rw [hY]
  have bY : Below w.heap.size w Y := by rw [← hY]; exact HB3.out.alloc HB3.out.size _
  have bxY : Below X.heap.size X Y := by rw [← hY]; exact HX3.out.alloc HX3.out.size _
  have y0 := cell_later bxY x0
  have y2 := cell_later bY c2
  have y2' := cell_later bY c2'
  have yf : Y.frozen? ⟨B, 2, none⟩ = false := free8 ((bY.block B (lt_of_block HB.out)).trans HB.out) 2
  have HBY := Lib.hid bY
  have HXY := Lib.hid bxY
  clear hY bY bxY c1 c1' c2 c2' x0
  go_wp2_with fail
  go_region
  obtain ⟨Z, hZ⟩ : ∃ Z, (Y.setCell ⟨B, 2, none⟩ (.int .u64 (l + l'))).drew = Z := ⟨_, rfl⟩
  rw [hZ]
  have hBw := lt_of_block HB.out
  have hSlt : ∀ k, S k → k < w.heap.size := raw_lt HD.out HX.out.2
  have zYZ : Z.heap.size = Y.heap.size := by rw [← hZ]; simp [World.drew, World.setCell]
  have zYX := HXY.out.size
  have zXw := HZX.out
  have kZ : Keeps S w Z := by
    rw [← hZ]
    exact ((Keeps.of_below HBY.out).set 2 _ (Or.inl (raw_B HX.out.2))).trans (Keeps.of_below (S := S) ((Below.refl _ _).drew)) (fun j hj => Or.inl hj)
  have hdr : Below (Y.setCell ⟨B, 2, none⟩ (.int .u64 (l + l'))).heap.size (Y.setCell ⟨B, 2, none⟩ (.int .u64 (l + l'))) Z := by rw [← hZ]; exact (Below.refl _ _).drew
  have rZ : LowRaw St Z B S m K (l + l') := raw_call HD.out (raw_lost HD.out (raw_call HD.out HX.out.2 HBY.out) (l + l')) hdr
  have rZ' : ∃ lx, LowRaw St Z B' S' m K' lx := by
    have h1 := raw_call HD.out HX'.out.2 HBY.out
    rcases HDJ.out with e | hdis
    · have h2 := raw_lost HD.out h1 (l + l')
      rw [e] at h2 ⊢
      exact ⟨_, raw_call HD.out h2 hdr⟩
    · exact ⟨_, raw_call HD.out (raw_keep HD.out h1 (fun k hk => Below.heap_setCell _ _ _ _ (by show k ≠ B; rintro rfl; exact hdis k (raw_B HX.out.2) hk))) hdr⟩
  have z0 : Z.cell? ⟨w.heap.size, 0, none⟩ = some (.pointer (some ⟨B, 0, none⟩)) := by
    refine cell_later hdr ?_
    rw [World.cell?_setCell_other _ _ _ _ (two_far (by omega))]
    exact y0
  have HPR : Hid (Calls Try.prog 15 #[.pointer (some ⟨B', 0, none⟩)] Z fun e w' => ∃ v, e = .returned v ∧ OwnP w' Z.heap.size v K' ∧ Below Z.heap.size Z w') := Lib.hid (by
    obtain ⟨lx, Cx, Sx, hbx, hstx, hnx, hSx⟩ := rZ'
    refine lpairs_of Z _ _ _ (ownsl_at (three_cells hbx).2.1) (fun e w' h => ?_) (HD.out.pairs _ _ _ _ _ hstx (by have := HL'.out; omega))
    obtain ⟨v, rfl, ho, _⟩ := h
    obtain ⟨A, cap, rfl⟩ := ho.form
    exact ⟨A, _, cap, rfl⟩)
  have HRZ := Lib.hid rZ
  have HKZ := Lib.hid kZ
  have HSLT := Lib.hid hSlt
  clear hZ rZ rZ' kZ hdr hSlt y0 y2 y2' yf u1
  go_wp2_with fail
  refine HPR.out.mono ?_
  rintro e w6 ⟨v6, rfl, ho6, b6⟩
  have hlt6 := ho6.lt
  obtain ⟨A6, cap6, rfl, hP6⟩ := ho6.pairs HP'.out.ok
  have z6 := b6.size
  have a0 := cell_later b6 z0
  have HP6 := Lib.hid hP6
  have HR6 := Lib.hid (raw_call HD.out HRZ.out b6)
  have HK6 : Hid (Keeps S w w6) := Lib.hid (HKZ.out.trans (Keeps.of_below (S := S) b6) (fun j hj => Or.inl hj))
  have HA6 : Hid (∀ g off, A6 = some ⟨g, off, none⟩ → Z.heap.size ≤ g ∧ g < w6.heap.size) := Lib.hid (fun g off e => by subst e; exact hlt6 g rfl)
  clear hP6 ho6 b6 hlt6 z0
  go_wp2_with fail
  refine (call_back A6 K'.length cap6 w6).mono ?_
  rintro e W0 ⟨rfl, hW0⟩
  have b7 : Below w6.heap.size w6 W0 := by rw [hW0]; exact (Below.refl _ _).alloc (Nat.le_refl _) _
  have z7 : W0.heap.size = w6.heap.size + 1 := by rw [hW0]; simp
  have a7 := cell_later b7 a0
  have HSQ : Hid (SeqStopsK Fence.wide 7 Try.prog 54 #[.pointer (some ⟨w6.heap.size, 0, none⟩)] (encBk K') (KeepB (backU w6 A6)) (fun ys => ys = bkL K') (fun _ => True) K'.length W0) := Lib.hid (by
    rw [hW0]
    exact back_stops 7 (by omega) w6 A6 cap6 K' HP6.out (by have := HL'.out; omega) (fun g off e => (HA6.out g off e).2))
  have HU : Hid (∀ k, backU w6 A6 k → k < W0.heap.size ∧ Z.heap.size ≤ k) := Lib.hid (fun k hk => by
    rcases hk with rfl | ⟨off, e⟩
    · omega
    · have := HA6.out k off e; omega)
  have HM0 : Hid (MI St w W0.heap.size B S m K K' (l + l') [] W0) := Lib.hid (by
    refine ⟨S, K, l + l', raw_call HD.out HR6.out b7, ⟨by omega, by omega⟩, by simp, fun j hj => Or.inl hj, a7, HK6.out.trans (Keeps.of_below (S := S) b7) (fun j hj => Or.inl hj), Nat.le_refl _, fun _ => ⟨?_, ?_⟩⟩
    · show K = keepP m (joinP K [])
      rw [join_nil, HP.out.kept]
    · show l + l' = l + l' + sumP K + sumP [] - sumP K
      rw [sumP_nil]; omega)
  have HLS : Hid (l + l' = (T - sumP K) + (T' - sumP K')) := Lib.hid (by rw [HLL.out, HLL'.out])
  have hwn : w.heap.size < W0.heap.size := by omega
  clear a0 a7 b7 hW0
  go_wp2_with fail
  refine (wpIn_wide (n := 8)).1 ?_
  refine wpIn_rangeFunc_ownH rfl (by omega) (gf := 54) (lb := #[.pointer (some ⟨w6.heap.size, 0, none⟩)]) rfl trivial enters_back HSQ.out keepB_t (keepB_b (fun k hk => (HU.out k hk).1)) (Below.refl _ _) (fun _ => rfl)
    (MI St w W0.heap.size B S m K K' (l + l')) (fun _ _ _ => False) (mi_own HD.out w W0.heap.size B S m K K' (l + l') (by omega)) (fun c _ _ _ _ h _ _ => h) HM0.out
    (fun x a' W => ∃ Bx, W0.heap.size ≤ Bx ∧ Two W Bx (.int .i64 (K'[x.1]).1) (.int .u64 (K'[x.1]).2) ∧ a' = { tmps := #[.pointer (some ⟨B, 0, none⟩), .pointer (some ⟨B', 0, none⟩), .pointer (some ⟨w.heap.size, 0, none⟩), undef, .int .i64 0, .int .u64 (T + T'), .bool true, undef, .pointer (some ⟨Bx, 0, none⟩), .pointer (some ⟨B, 0, none⟩), .bool false, .bool false, .pointer (some ⟨B', 0, none⟩), .bool false, .bool false, .pointer (some ⟨B, 0, none⟩), .pointer (some ⟨B, 0, none⟩), .pointer (some ⟨B, 0, none⟩), .int .i64 m, .pointer (some ⟨B', 0, none⟩), .pointer (some ⟨B', 0, none⟩), .pointer (some ⟨B', 0, none⟩), .int .i64 m, .bool false, .tuple #[.int .u64 (T + T'), .bool true], .pointer (some ⟨B, 0, none⟩), .int .u64 T, .pointer (some ⟨B', 0, none⟩), .int .u64 T', .slice (some ⟨w3.heap.size, 0, none⟩) 2 2, .tuple #[.int .u64 (T + T'), .bool true], .int .u64 (T + T'), .bool true, .bool true, .bool false, .pointer (some ⟨B, 0, none⟩), .pointer (some ⟨B, 0, none⟩), .pointer (some ⟨B, 2, none⟩), .int .u64 l, .pointer (some ⟨B', 0, none⟩), .pointer (some ⟨B', 0, none⟩), .pointer (some ⟨B', 2, none⟩), .int .u64 l', .int .u64 (l + l'), .pointer (some ⟨B, 0, none⟩), .pointer (some ⟨B, 2, none⟩), .pointer (some ⟨B', 0, none⟩), .slice A6 K'.length cap6, .func (.func 54) #[] #[.pointer (some ⟨w6.heap.size, 0, none⟩)], .int .i64 (x.1 : Int), .agg #[.int .i64 (K'[x.1]).1, .int .u64 (K'[x.1]).2], undef, undef, undef, undef, undef, undef], defers := [] })
    (fun x a' _ X Y row hs hg hr => by
      obtain ⟨Bx, hBx, h, e⟩ := hs
      have hr' := fun r e => (hr r e).2
      exact ⟨Bx, hBx, ⟨cell_kept h.c0 hg hr', cell_kept h.c1 hg hr', (frozen_kept h.c0 hg hr').trans h.f0, (frozen_kept h.c1 hg hr').trans h.f1⟩, e⟩)
    ?assign ?body ?done ?stop
  case assign =>
    rintro l9 pre x W K9 hI hK
    have HI := Lib.hid hI
    obtain ⟨_, _, _, _, _, _, _, _, _, hsz, _⟩ := hI
    have HSZ := Lib.hid hsz
    clear hsz
    simp only [encBk]
    gi_wp2
    exact hK _ _ ((KeepsOthers.alloc _ _).from _) (fun k hk => heap_alloc_old _ _ (by have := (HU.out k hk).1; have := HSZ.out; omega)) (mi_alloc HD.out HI.out (by omega) _) ⟨W.heap.size, HSZ.out, Two.new W _ _ _, rfl⟩
  case body =>
    rintro l9 pre x a' W hl9 _ hI ⟨Bx, hBx, hT, rfl⟩ hlt
    obtain ⟨S1, K1, l1, h1, h2, h3, h4, h5, h6, h7, h8⟩ := hI
    have hxo := HP'.out.ok _ (List.getElem_mem x.2)
    have hpx : pre.length < K'.length := hlt
    obtain ⟨xi, hxi⟩ : ∃ xi, (K'[x.1]).1 = xi := ⟨_, rfl⟩
    obtain ⟨xc, hxc⟩ : ∃ xc, (K'[x.1]).2 = xc := ⟨_, rfl⟩
    have HXI := Lib.hid hxi
    have HXC := Lib.hid hxc
    obtain ⟨y0, y1, y2, y3⟩ := hT
    unfold okP at hxo
    rw [hxi, hxc] at hxo
    rw [hxi] at y0
    rw [hxc] at y1
    rw [hxi, hxc]
    have HPUT := Lib.hid (lputw_any HD.out W B S1 m K1 l1 xi xc h1 (by have := HL.out; have := HL'.out; omega) hxo.1 hxo.2 HP.out.m1 HP.out.m2 h2)
    have H1 := Lib.hid h1
    have H3 := Lib.hid h3
    have H4 := Lib.hid h4
    have H5 := Lib.hid h5
    have H6 := Lib.hid h6
    have H7 := Lib.hid h7
    have H8 := Lib.hid h8
    clear h1 h2 h3 h4 h6 h7 h8 hxi hxc hxo hlt hpx
    gi_wp2_with (refine ⟨trivial, ?_⟩; gi_at_call 34; refine (CallsIn.inRound l9 (callsIn_wide.2 HPUT.out)).mono ?_; rintro e W3 ⟨rfl, hput⟩; clear HPUT)
    have hkp : Keeps S1 W W3 := by
      obtain ⟨_, _, _, _, hk, _⟩ := hput
      exact hk
    refine ⟨(keeps_others hkp (fun k hk _ => raw_cells HD.out H1.out k hk)).from _, fun k hk => hkp.block k (by have := (HU.out k hk).1; have := H7.out; omega) (fun h => ?_), ?_⟩
    · have hu := HU.out k hk
      rcases H4.out k h with h | h
      · have := HSLT.out k h; omega
      · omega
    · exact mi_step HP.out HP'.out HLS.out HSM.out H3.out H4.out H5.out H6.out H7.out H8.out (by omega) HSLT.out (by rw [HXI.out, HXC.out]; exact hput)
  case done =>
    rintro D9 ys W hD rfl hI hK
    have hfin := mi_done HP.out HP'.out HLS.out HSM.out (by omega) hI
    obtain ⟨S2, hr2, hk2, hs2⟩ := hfin
    have HR2 := Lib.hid hr2
    have HK2 := Lib.hid hk2
    have HS2 := Lib.hid hs2
    have HKD := Lib.hid hK
    clear hI hr2 hk2 hs2 hK
    go_wp2_with fail
    refine ⟨by simp, .inl ⟨_, _, rfl, run_takeDeferred HKD.out, ?_⟩⟩
    refine ⟨.int .i64 0, ?_, rfl, S2, raw_grown HD.out HR2.out (grownBy_putObj' W D9 _) (fun r e => by cases e; exact ⟨_, HKD.out, rfl⟩), putObj_keeps HK2.out _ (by omega), HS2.out⟩
    simp [results, Try.f29, go_sem]
  case stop =>
    rintro D9 c9 pre W hD hpre hF
    exact hF.elim
end Go.Proofs.Ytoegjncccahmlaa
