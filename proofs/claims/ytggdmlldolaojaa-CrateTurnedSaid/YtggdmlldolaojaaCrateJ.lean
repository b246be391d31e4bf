/-
  Walks: Below and Find of whatever goes over a row (a crate, or a nil one).
-/
import Derived.Test.YtggdmlldolaojaaCrateI
import Derived.Test.YtggdmlldolaojaaCrateS
namespace Go.Proofs.Ytggdmlldolaojaa
set_option linter.unusedVariables false
set_option linter.unusedSimpArgs false
open Go.RowKit Go.Shelf
attribute [local go_sem] Oper.semAt_some

theorem below_all {L : List PairV} {i : Int} (h : ∀ p, p ∈ L → p.1 ≤ i) : belowP L i = sumP L := by
  unfold belowP
  rw [List.filter_eq_self.2 (fun p hp => by simpa using h p hp)]
theorem below_none {L : List PairV} {i : Int} (h : ∀ p, p ∈ L → i < p.1) : belowP L i = 0 := by
  unfold belowP
  rw [List.filter_eq_nil_iff.2 (fun p hp => by have := h p hp; simp; omega)]; rfl
theorem below_stop {L q : List PairV} {x : PairV} {i : Int} (hg : GoodP L) (hp : q ++ [x] <+: L) (hq : ∀ p, p ∈ q → p.1 ≤ i) (hx : i < x.1) : belowP L i = sumP q := by
  obtain ⟨r, rfl⟩ := hp
  rw [List.append_assoc, below_app, below_all hq, below_none, Int.add_zero]
  intro p hp
  have h1 := (good_app (A := q) (by rw [← List.append_assoc]; exact hg)).2.1
  rcases List.mem_append.1 hp with h | h
  · simp at h; subst h; exact hx
  · have := (List.pairwise_cons.1 (show List.Pairwise _ (x :: r) from h1.2)).1 p h; omega
/-- None lies beyond an index. -/
def UpTo (q : List PairV) (i : Int) : Prop := ∀ p, p ∈ q → p.1 ≤ i
theorem UpTo.nil (i : Int) : UpTo [] i := fun p hp => by cases hp
theorem UpTo.snoc {q : List PairV} {i : Int} {x : PairV} (h : UpTo q i) (hx : x.1 ≤ i) : UpTo (q ++ [x]) i := fun p hp => by
  rcases List.mem_append.1 hp with h' | h'
  · exact h p h'
  · simp at h'; subst h'; exact hx
/-- A number that goes round. -/
def rnd (x : Int) : Int := x % 18446744073709551616
theorem rnd_word (x : Int) : 0 ≤ rnd x ∧ rnd x < 18446744073709551616 := by unfold rnd; omega
theorem rnd_id {x : Int} (h : 0 ≤ x) (h2 : x < 18446744073709551616) : rnd x = x := by unfold rnd; omega
theorem rnd_add (x y : Int) : IntKind.u64.wrap (rnd x + y) = rnd (x + y) := by rw [IntKind.wrap_u64]; unfold rnd; omega
theorem rnd_sub (x y : Int) : IntKind.u64.wrap (rnd x - y) = rnd (x - y) := by rw [IntKind.wrap_u64]; unfold rnd; omega

set_option maxRecDepth 1000000 in
set_option maxHeartbeats 4000000 in
theorem cbelow_in (w : World) (c : Option Addr) (S : Nat → Prop) (L : List PairV) (i : Int) (hS : ∀ k, S k → k < w.heap.size) (hg : GoodP L) (hs : sumP L ≤ 9223372036854775807) (hi : I64 i)
    (hall : ∀ w', Below w.heap.size w w' → Calls Try.prog 18 #[.pointer c] w' (Goes 7 S L w')) :
    CallsIn Fence.wide 8 Try.prog 20 #[.pointer c, .int .i64 i] w fun e w' => e = .returned (.int .u64 (belowP L i)) ∧ Below w.heap.size w w' := by
  have HS := Lib.hid hS
  have HG := Lib.hid hg
  have HSM := Lib.hid hs
  have HAL := Lib.hid hall
  obtain ⟨i0, i1⟩ := hi
  clear hS hg hs hall
  obtain ⟨wz, hwz⟩ : ∃ wz, (w.alloc (.cells #[.int .i64 i] 3)).alloc (.cells #[.int .u64 0] 29) = wz := ⟨_, rfl⟩
  have bz : Below w.heap.size w wz := by rw [← hwz]; exact ((Below.refl _ _).alloc (Nat.le_refl _) _).alloc (by simp) _
  have uz : Uno wz w.heap.size (.int .i64 i) := by rw [← hwz]; exact (Uno.new w _ _).alloc _
  have vz : Uno wz (w.heap.size + 1) (.int .u64 0) := by
    have := Uno.new (w.alloc (.cells #[.int .i64 i] 3)) (.int .u64 0) 29
    rw [World.size_alloc] at this
    rw [← hwz]; exact this
  have zz : wz.heap.size = w.heap.size + 2 := by rw [← hwz]; simp
  have HZZ := Lib.hid zz
  have HUZ := Lib.hid uz
  have HVZ := Lib.hid vz
  have HBZ := Lib.hid bz
  clear bz uz vz zz
  refine callsIn_of_wp_marks Try.func20 rfl trivial ?_ rfl
  refine wpIn_wide.2 ?_
  simp only [Try.ntmps20, List.size_toArray, List.length_cons, List.length_nil, Nat.reduceAdd, Nat.reduceSub, Array.replicate_succ, Array.replicate_zero, List.push_toArray, List.append_toArray, List.nil_append, List.cons_append]
  go_wp2_with fail
  clear hwz
  refine (HAL.out wz HBZ.out).mono ?_
  rintro e wa ⟨gf, lb, U, rfl, heg, hba, hU, hseq⟩
  have U1 := HUZ.out.call hba
  have U2 := HVZ.out.call hba
  have BA := HBZ.out.trans (hba.mono (by rw [HZZ.out]; omega))
  have za := hba.size
  rw [HZZ.out] at za
  have hUr : ∀ k, U k → k < wa.heap.size ∧ k ≠ w.heap.size + 1 := fun k hk => by
    have h1 := hU k hk
    have h2 := HZZ.out
    rcases h1.1 with h | h
    · have := HS.out k h; omega
    · omega
  have HEG := Lib.hid heg
  have HSQ := Lib.hid hseq
  have HU := Lib.hid hUr
  clear heg hseq hU hUr hba
  go_wp2_with fail
  refine (wpIn_wide (n := 8)).1 ?_
  refine wpIn_rangeFunc_ownH rfl (by omega) (gf := gf) (lb := lb) rfl trivial HEG.out HSQ.out keepU_t (keepU_b (fun k hk => (HU.out k hk).1)) (Below.refl _ _) (fun _ => rfl)
    (fun pre W => (Uno W w.heap.size (.int .i64 i) ∧ Uno W (w.heap.size + 1) (.int .u64 (rnd (sumP pre))) ∧ UpTo pre i) ∧ Below w.heap.size w W)
    (fun c pre W => (c = .exit 0 ∧ ∃ q x, pre = q ++ [x] ∧ Uno W w.heap.size (.int .i64 i) ∧ Uno W (w.heap.size + 1) (.int .u64 (rnd (sumP q))) ∧ UpTo q i ∧ i < x.1) ∧ Below w.heap.size w W)
    (OwnFrom.and (Own.from (fun s A B row hs hg hr => ⟨Uno.own _ (fun _ : Unit => _) () A B row hs.1 hg hr, Uno.own _ (fun _ : Unit => _) () A B row hs.2.1 hg hr, hs.2.2⟩) _) (ownFrom_below (Nat.le_refl _) (by omega)))
    (fun c => OwnFrom.and (Own.from (fun s A B row hs hg hr => by
      obtain ⟨h1, q, x, h2, h3, h4, h5⟩ := hs
      exact ⟨h1, q, x, h2, Uno.own _ (fun _ : Unit => _) () A B row h3 hg hr, Uno.own _ (fun _ : Unit => _) () A B row h4 hg hr, h5⟩) _) (ownFrom_below (Nat.le_refl _) (by omega)))
    ⟨⟨U1, U2, UpTo.nil i⟩, BA⟩
    (fun x a' W => a' = { tmps := #[.pointer c, .int .i64 i, undef, .pointer (some ⟨w.heap.size, 0, none⟩), .int .u64 0, .pointer (some ⟨w.heap.size + 1, 0, none⟩), .int .i64 x.1, .int .u64 x.2, .pointer c, .func (.func gf) #[] lb, .int .i64 x.1, .int .u64 x.2, undef, undef, undef, undef, undef, undef, undef], defers := [] })
    (fun x a' _ X Y row hs hg hr => hs)
    ?assign ?body ?done ?stop
  case assign =>
    rintro l pre ⟨x1, x2⟩ W K hI hK
    simp only [encPr]
    gi_wp2
    exact hK _ _ ((KeepsOthers.refl W).from _) (fun _ _ => rfl) hI rfl
  case body =>
    rintro l pre ⟨x1, x2⟩ a' W hl _ ⟨⟨a1, a2, a3⟩, hB⟩ rfl hlt
    obtain ⟨p0, p1⟩ := id a1
    obtain ⟨p2, p3⟩ := id a2
    have H3 := Lib.hid a3
    obtain ⟨m, hm⟩ : ∃ m, rnd (sumP pre) = m := ⟨_, rfl⟩
    have hmw := rnd_word (sumP pre)
    rw [hm] at p2 hmw
    have hadd := rnd_add (sumP pre) x2
    rw [hm] at hadd
    have HADD := Lib.hid hadd
    obtain ⟨m0, m1⟩ := hmw
    have HM := Lib.hid hm
    clear a3 hm hlt hadd
    by_cases hx : i < x1
    · gi_wp2
      exact ⟨(KeepsOthers.refl W).from _, ⟨rfl, pre, (x1, x2), rfl, a1, a2, H3.out, hx⟩, hB⟩
    · gi_wp2
      refine ⟨(KeepsOthers.setCell _ _ _).from _, fun k hk => Below.heap_setCell _ _ _ _ (HU.out k hk).2, ⟨a1.past (by omega) _, ?_, ?_⟩, hB.setCell (p := ⟨w.heap.size + 1, 0, none⟩) (by simp) _⟩
      · rw [sumP_app, sumP_one]
        rw [HADD.out]
        exact a2.put _
      · exact H3.out.snoc (by omega)
  case done =>
    rintro D ys W hD rfl ⟨⟨a1, a2, a3⟩, hB⟩ hK
    obtain ⟨p2, p3⟩ := id a2
    have hv : rnd (sumP ys) = belowP ys i := by rw [below_all a3, rnd_id (sumP_pos (good_pos HG.out)) (by have := HSM.out; omega)]
    rw [hv] at p2
    have HKD := Lib.hid hK
    clear a3 hv hK
    go_wp2_with fail
    refine ⟨by simp, .inl ⟨_, _, rfl, run_takeDeferred HKD.out, ?_⟩⟩
    refine ⟨_, ?_, rfl, hB.trans (belowK_b (w := w) (Nat.le_refl _) _ D _ _ (by omega) HKD.out rfl rfl)⟩
    simp [results, Try.f20, go_sem]
  case stop =>
    rintro D c pre W hD hpre ⟨⟨rfl, q, x, rfl, a1, a2, a3, hx⟩, hB⟩ hK
    obtain ⟨p2, p3⟩ := id a2
    have hv : rnd (sumP q) = belowP L i := by
      have h1 := below_stop HG.out hpre a3 hx
      obtain ⟨r, hr⟩ := hpre
      have h2 := sumP_take (L := L) q.length (good_pos HG.out)
      have e : L.take q.length = q := by rw [← hr, List.append_assoc, List.take_left']; rfl
      rw [e] at h2
      rw [h1, rnd_id h2.1 (by have := HSM.out; omega)]
    rw [hv] at p2
    have HKD := Lib.hid hK
    clear a3 hv hK hpre hx
    gi_wp2
    go_wp2_with fail
    refine ⟨by simp, .inl ⟨_, _, rfl, run_takeDeferred HKD.out, ?_⟩⟩
    refine ⟨_, ?_, rfl, hB.trans (belowK_b (w := w) (Nat.le_refl _) _ D _ _ (by omega) HKD.out rfl rfl)⟩
    simp [results, Try.f20, go_sem]

/-- Where the t-th one stands; that it stands further on. -/
def FindAt (L : List PairV) (t : Int) (q : List PairV) (x : PairV) : Prop := q ++ [x] <+: L → sumP q < t ∧ t ≤ sumP q + x.2
def Short (L : List PairV) (t : Int) (pre : List PairV) : Prop := pre <+: L → sumP pre < t
theorem find_at {L : List PairV} {t : Int} {q : List PairV} {x : PairV} (hg : GoodP L) (h : FindAt L t q x) (hp : q ++ [x] <+: L) (ht : 0 < t) : findP L t = some x.1 := by
  obtain ⟨h1, h2⟩ := h hp
  obtain ⟨r, hr⟩ := hp
  unfold findP
  rw [if_pos ht]
  have e : L.take q.length = q := by rw [← hr, List.append_assoc, List.take_left']; rfl
  refine seek_at t L 0 q.length x (good_pos hg) ?_ (by rw [e]; omega) (by rw [e]; omega)
  rw [← hr, List.append_assoc, List.getElem?_append_right (Nat.le_refl _), Nat.sub_self]; rfl
theorem find_none {L : List PairV} {t : Int} (hg : GoodP L) (h : Short L t L) : findP L t = none := by
  have h1 := h ⟨[], List.append_nil L⟩
  unfold findP
  split
  · exact seek_none t L 0 (good_pos hg) (by omega)
  · rfl
theorem short_step {L : List PairV} {t : Int} {q : List PairV} {x : PairV} (hg : GoodP L) (hw : t < 18446744073709551616) (h : Short L t q) (hx : ¬ rnd (t - sumP q) ≤ x.2) : Short L t (q ++ [x]) := by
  intro hp
  have h1 := h (List.IsPrefix.trans ⟨[x], rfl⟩ hp)
  have h2 : 0 ≤ sumP q := sumP_pos fun p hq => good_pos hg p (hp.subset (List.mem_append_left _ hq))
  rw [rnd_id (by omega) (by omega)] at hx
  rw [sumP_app, sumP_one]; omega
theorem short_at {L : List PairV} {t : Int} {q : List PairV} {x : PairV} (hg : GoodP L) (hw : t < 18446744073709551616) (h : Short L t q) (hx : rnd (t - sumP q) ≤ x.2) : FindAt L t q x := by
  intro hp
  have h1 := h (List.IsPrefix.trans ⟨[x], rfl⟩ hp)
  have h2 : 0 ≤ sumP q := sumP_pos fun p hq => good_pos hg p (hp.subset (List.mem_append_left _ hq))
  rw [rnd_id (by omega) (by omega)] at hx
  omega
theorem cell_put {W : World} {B : Nat} {x : Value} {o o' : Obj} {D : Nat} (h : W.cell? ⟨B, 0, none⟩ = some x) (hD : W.heap[D]? = some o) (ho : o.isCells = false) : (W.putObj D o').cell? ⟨B, 0, none⟩ = some x :=
  cell_kept h (grownBy_putObj' W D o') (fun r e => by cases e; exact ⟨_, hD, ho⟩)

set_option maxRecDepth 1000000 in
set_option maxHeartbeats 4000000 in
theorem cfind_in (w : World) (c : Option Addr) (S : Nat → Prop) (L : List PairV) (t : Int) (hS : ∀ k, S k → k < w.heap.size) (hg : GoodP L) (ht : Word t) (h0 : 0 < t)
    (hall : ∀ w', Below w.heap.size w w' → Calls Try.prog 18 #[.pointer c] w' (Goes 7 S L w')) :
    CallsIn Fence.wide 8 Try.prog 19 #[.pointer c, .int .u64 t] w fun e w' => e = .returned (.tuple #[.int .i64 ((findP L t).getD 0), .bool (findP L t).isSome]) ∧ Below w.heap.size w w' := by
  have HS := Lib.hid hS
  have HG := Lib.hid hg
  have HAL := Lib.hid hall
  obtain ⟨t0, t1⟩ := ht
  have q0 : (t == 0) = false := by simp; omega
  have HW := Lib.hid (show t < 18446744073709551616 by omega)
  clear hS hg hall
  obtain ⟨wz, hwz⟩ : ∃ wz, ((w.alloc (.cells #[.int .u64 t] 29)).alloc (.cells #[.int .i64 0] 3)).alloc (.cells #[.bool false] 4) = wz := ⟨_, rfl⟩
  have bz : Below w.heap.size w wz := by rw [← hwz]; exact (((Below.refl _ _).alloc (Nat.le_refl _) _).alloc (by simp) _).alloc (by simp; omega) _
  have uz : Uno wz w.heap.size (.int .u64 t) := by rw [← hwz]; exact ((Uno.new w _ _).alloc _).alloc _
  have vz : Uno wz (w.heap.size + 1) (.int .i64 0) := by
    have := (Uno.new (w.alloc (.cells #[.int .u64 t] 29)) (.int .i64 0) 3).alloc (.cells #[.bool false] 4)
    rw [World.size_alloc] at this
    rw [← hwz]; exact this
  have xz : Uno wz (w.heap.size + 1 + 1) (.bool false) := by
    have := Uno.new ((w.alloc (.cells #[.int .u64 t] 29)).alloc (.cells #[.int .i64 0] 3)) (.bool false) 4
    simp only [World.size_alloc] at this
    rw [← hwz]; exact this
  have zz : wz.heap.size = w.heap.size + 3 := by rw [← hwz]; simp
  have HZZ := Lib.hid zz
  have HUZ := Lib.hid uz
  have HVZ := Lib.hid vz
  have HXZ := Lib.hid xz
  have HBZ := Lib.hid bz
  have k0 := uz.c
  clear bz uz vz xz zz
  refine callsIn_of_wp_marks Try.func19 rfl trivial ?_ rfl
  refine wpIn_wide.2 ?_
  simp only [Try.ntmps19, List.size_toArray, List.length_cons, List.length_nil, Nat.reduceAdd, Nat.reduceSub, Array.replicate_succ, Array.replicate_zero, List.push_toArray, List.append_toArray, List.nil_append, List.cons_append]
  go_wp2_with fail
  clear hwz k0
  refine (HAL.out wz HBZ.out).mono ?_
  rintro e wa ⟨gf, lb, U, rfl, heg, hba, hU, hseq⟩
  have U1 := HUZ.out.call hba
  have U2 := HVZ.out.call hba
  have U3 := HXZ.out.call hba
  have BA := HBZ.out.trans (hba.mono (by rw [HZZ.out]; omega))
  have za := hba.size
  rw [HZZ.out] at za
  have hUr : ∀ k, U k → k < wa.heap.size ∧ k ≠ w.heap.size := fun k hk => by
    have h1 := hU k hk
    have h2 := HZZ.out
    rcases h1.1 with h | h
    · have := HS.out k h; omega
    · omega
  have HEG := Lib.hid heg
  have HSQ := Lib.hid hseq
  have HU := Lib.hid hUr
  clear heg hseq hU hUr hba
  go_wp2_with fail
  refine (wpIn_wide (n := 8)).1 ?_
  refine wpIn_rangeFunc_ownH rfl (by omega) (gf := gf) (lb := lb) rfl trivial HEG.out HSQ.out keepU_t (keepU_b (fun k hk => (HU.out k hk).1)) (Below.refl _ _) (fun _ => rfl)
    (fun pre W => (Uno W w.heap.size (.int .u64 (rnd (t - sumP pre))) ∧ Uno W (w.heap.size + 1) (.int .i64 0) ∧ Uno W (w.heap.size + 1 + 1) (.bool false) ∧ Short L t pre) ∧ Below w.heap.size w W)
    (fun c pre W => (c = .ret ∧ ∃ q x, pre = q ++ [x] ∧ Uno W (w.heap.size + 1) (.int .i64 x.1) ∧ Uno W (w.heap.size + 1 + 1) (.bool true) ∧ FindAt L t q x) ∧ Below w.heap.size w W)
    (OwnFrom.and (Own.from (fun s A B row hs hg hr => ⟨Uno.own _ (fun _ : Unit => _) () A B row hs.1 hg hr, Uno.own _ (fun _ : Unit => _) () A B row hs.2.1 hg hr, Uno.own _ (fun _ : Unit => _) () A B row hs.2.2.1 hg hr, hs.2.2.2⟩) _) (ownFrom_below (Nat.le_refl _) (by omega)))
    (fun c => OwnFrom.and (Own.from (fun s A B row hs hg hr => by
      obtain ⟨h1, q, x, h2, h3, h4, h5⟩ := hs
      exact ⟨h1, q, x, h2, Uno.own _ (fun _ : Unit => _) () A B row h3 hg hr, Uno.own _ (fun _ : Unit => _) () A B row h4 hg hr, h5⟩) _) (ownFrom_below (Nat.le_refl _) (by omega)))
    ⟨⟨by rw [sumP_nil, Int.sub_zero, rnd_id (by omega) HW.out]; exact U1, U2, U3, fun _ => h0⟩, BA⟩
    (fun x a' W => a' = { tmps := #[.pointer c, .int .u64 t, undef, .pointer (some ⟨w.heap.size, 0, none⟩), .pointer (some ⟨w.heap.size + 1, 0, none⟩), .pointer (some ⟨w.heap.size + 1 + 1, 0, none⟩), .int .i64 x.1, .int .u64 x.2, .int .u64 t, .bool false, .pointer c, .func (.func gf) #[] lb, .int .i64 x.1, .int .u64 x.2, undef, undef, undef, undef, undef, undef, undef], defers := [] })
    (fun x a' _ X Y row hs hg hr => hs)
    ?assign ?body ?done ?stop
  case assign =>
    rintro l pre ⟨x1, x2⟩ W K hI hK
    simp only [encPr]
    gi_wp2
    exact hK _ _ ((KeepsOthers.refl W).from _) (fun _ _ => rfl) hI rfl
  case body =>
    rintro l pre ⟨x1, x2⟩ a' W hl _ ⟨⟨a1, a2, a3, a4⟩, hB⟩ rfl hlt
    obtain ⟨p0, p1⟩ := id a1
    obtain ⟨p2, p3⟩ := id a2
    obtain ⟨p4, p5⟩ := id a3
    have H4 := Lib.hid a4
    obtain ⟨m, hm⟩ : ∃ m, rnd (t - sumP pre) = m := ⟨_, rfl⟩
    have hmw := rnd_word (t - sumP pre)
    rw [hm] at p0 hmw
    have hadd := rnd_sub (t - sumP pre) x2
    rw [hm] at hadd
    have HADD := Lib.hid hadd
    obtain ⟨m0, m1⟩ := hmw
    have HM := Lib.hid hm
    have z1 := a1.lt
    clear a4 hm hlt hadd q0
    by_cases hx : m ≤ x2
    · have HF := Lib.hid (short_at HG.out HW.out H4.out (x := (x1, x2)) (by rw [HM.out]; exact hx))
      gi_wp2
      exact ⟨((KeepsOthers.setCell _ _ _).trans (KeepsOthers.setCell _ _ _)).from _, ⟨rfl, pre, (x1, x2), rfl, (a2.put _).past (by omega) _, (a3.past (by omega) _).put _, HF.out⟩, (hB.setCell (p := ⟨w.heap.size + 1, 0, none⟩) (by simp) _).setCell (p := ⟨w.heap.size + 1 + 1, 0, none⟩) (by simp; omega) _⟩
    · have HF := Lib.hid (short_step HG.out HW.out H4.out (x := (x1, x2)) (by rw [HM.out]; exact hx))
      gi_wp2
      refine ⟨(KeepsOthers.setCell _ _ _).from _, fun k hk => Below.heap_setCell _ _ _ _ (HU.out k hk).2, ⟨?_, a2.past (by omega) _, a3.past (by omega) _, HF.out⟩, hB.setCell (p := ⟨w.heap.size, 0, none⟩) (by simp) _⟩
      rw [sumP_app, sumP_one, show t - (sumP pre + (x1, x2).2) = t - sumP pre - x2 by show t - (sumP pre + x2) = _; omega, ← HADD.out]
      exact a1.put _
  case done =>
    rintro D ys W hD rfl ⟨⟨a1, a2, a3, a4⟩, hB⟩ hK
    obtain ⟨p2, p3⟩ := id a2
    obtain ⟨p4, p5⟩ := id a3
    have HF := Lib.hid (find_none HG.out a4)
    have HKD := Lib.hid hK
    clear a4 hK
    go_wp2_with fail
    have hK' := ((KeepsOthers.setCell W ⟨w.heap.size + 1, 0, none⟩ (.int .i64 0)).trans (KeepsOthers.setCell _ ⟨w.heap.size + 1 + 1, 0, none⟩ (.bool false))).same D _ HKD.out rfl
    refine ⟨by simp, .inl ⟨_, _, rfl, run_takeDeferred hK', ?_⟩⟩
    have hc4 := cell_put (o' := .deferred none) ((a2.put (.int .i64 0)).past (B' := w.heap.size + 1 + 1) (by omega) (.bool false)).c hK' rfl
    have hc5 := cell_put (o' := .deferred none) ((a3.past (B' := w.heap.size + 1) (by omega) (.int .i64 0)).put (.bool false)).c hK' rfl
    rw [HF.out]
    refine ⟨.tuple #[.int .i64 0, .bool false], ?_, rfl, ((hB.setCell (p := ⟨w.heap.size + 1, 0, none⟩) (by simp) _).setCell (p := ⟨w.heap.size + 1 + 1, 0, none⟩) (by simp; omega) _).trans (belowK_b (w := w) (Nat.le_refl _) _ D _ _ (by omega) hK' rfl rfl)⟩
    simp [results, Try.f19, go_sem, hc4, hc5]
  case stop =>
    rintro D c pre W hD hpre ⟨⟨rfl, q, x, rfl, a2, a3, hF⟩, hB⟩ hK
    obtain ⟨p2, p3⟩ := id a2
    obtain ⟨p4, p5⟩ := id a3
    have HF := Lib.hid (find_at HG.out hF hpre h0)
    have HKD := Lib.hid hK
    clear hF hK hpre
    gi_wp2
    refine ⟨by simp, .inl ⟨_, _, rfl, run_takeDeferred HKD.out, ?_⟩⟩
    have hc4 := cell_put (o' := .deferred none) a2.c HKD.out rfl
    have hc5 := cell_put (o' := .deferred none) a3.c HKD.out rfl
    rw [HF.out]
    refine ⟨.tuple #[.int .i64 x.1, .bool true], ?_, rfl, hB.trans (belowK_b (w := w) (Nat.le_refl _) _ D _ _ (by omega) HKD.out rfl rfl)⟩
    simp [results, Try.f19, go_sem, hc4, hc5]
end Go.Proofs.Ytggdmlldolaojaa
