/-
  The walk of the law ShareEven.
-/
import Derived.Test.YtbllnhkfnbadgaaEvenA
import Derived.Test.YtbllnhkfnbadgaaSignM
import Derived.Test.YtbllnhkfnbadgaaTwo
namespace Go.Proofs.Ytbllnhkfnbadgaa
set_option linter.unusedVariables false
set_option linter.unusedSimpArgs false
open Go.RowKit Go.Shelf
attribute [local go_sem] Oper.semAt_some

/-- A block of one cell that may be written. -/
structure One (w : World) (B : Nat) (x : Value) : Prop where
  c : w.cell? ⟨B, 0, none⟩ = some x
  f : w.frozen? ⟨B, 0, none⟩ = false
theorem One.lt {w : World} {B : Nat} {x : Value} (h : One w B x) : B < w.heap.size := World.block_lt_of_cell? (a := ⟨B, 0, none⟩) w h.c
theorem One.call {w w' : World} {B : Nat} {x : Value} (h : One w B x) (hb : Below w.heap.size w w') : One w' B x :=
  ⟨cell_later hb h.c, ((bcell hb).2 _ _ h.lt).trans h.f⟩
theorem One.alloc {w : World} {B : Nat} {x : Value} (h : One w B x) (o : Obj) : One (w.alloc o) B x :=
  h.call ((Below.refl _ _).alloc (Nat.le_refl _) _)
theorem One.new (w : World) (x : Value) (t : TypeId) : One (w.alloc (.cells #[x] t)) w.heap.size x := ⟨by go_simp, by go_simp⟩
theorem One.put {w : World} {B : Nat} {x : Value} (h : One w B x) (y : Value) : One (w.setCell ⟨B, 0, none⟩ y) B y :=
  ⟨World.cell?_setCell_same _ _ _ h.c, by rw [World.frozen?_setCell]; exact h.f⟩
theorem One.past {w : World} {B B' : Nat} {x : Value} (h : One w B x) (hB : B' ≠ B) (y : Value) : One (w.setCell ⟨B', 0, none⟩ y) B x :=
  ⟨by rw [World.cell?_setCell_other _ _ _ _ (two_far hB)]; exact h.c, by rw [World.frozen?_setCell]; exact h.f⟩
theorem One.own {β : Type} (B : Nat) (f : β → Value) : Own (fun s W => One W B (f s)) := fun s A B' row hs hg hr =>
  ⟨cell_kept hs.c hg hr, (frozen_kept hs.c hg hr).trans hs.f⟩

theorem evK_at {m k : Nat} {pre : List (Int × Int)} {x : Int × Int} (h : pre ++ [x] = evK m k) (hk : k = pre.length + 1) : x = ((pre.length : Int), (m : Int)) := by
  subst hk
  rw [← evK_next] at h
  have := List.append_inj_right' h (by simp)
  exact List.head_eq_of_cons_eq this
theorem ev_bad {m j : Nat} {pre : List (Int × Int)} {x1 x2 : Int} (h : ¬ x2 = (m : Int)) (hp : pre = evK m j) : ¬ pre ++ [(x1, x2)] = evK m (pre ++ [(x1, x2)]).length := by
  intro e
  exact h (congrArg Prod.snd (evK_at e (by simp)))
theorem ev_bad1 {m j : Nat} {J : Int} {pre : List (Int × Int)} {x1 x2 : Int} (h : ¬ x1 = J) (hJ : (j : Int) = J) (hp : pre = evK m j) : ¬ pre ++ [(x1, x2)] = evK m (pre ++ [(x1, x2)]).length := by
  intro e
  have h1 := congrArg Prod.fst (evK_at e (by simp))
  have h2 : pre.length = j := by rw [hp, evK_len]
  simp only [h2] at h1
  exact h (h1.trans hJ)
theorem evK_prefix {m k : Nat} {pre : List (Int × Int)} (h : pre <+: evK m k) : pre = evK m pre.length := by
  have h1 := List.prefix_iff_eq_take.1 h
  have hl := h.length_le
  rw [evK_len] at hl
  have h2 : (evK m k).take pre.length = evK m pre.length := by
    unfold evK
    rw [← List.map_take, List.take_range, Nat.min_eq_left hl]
  rw [h2] at h1
  exact h1

set_option maxRecDepth 1000000 in
set_option maxHeartbeats 4000000 in
theorem leven_in (m : Nat) (stop : Int) (hm : 1 ≤ m) (hm2 : m ≤ 200) (hs : I64 stop) (w : World) :
    CallsIn Fence.wide 8 Try.prog 6 #[.int .i64 (m : Int), .int .i64 stop] w fun e W' =>
      e = .returned (.bool true) ∧ Below w.heap.size w W' := by
  have i0 : ¬ (200 : Int) < (m : Int) := by omega
  have S0 : One (((w.alloc (.cells #[.int .i64 (m : Int)] 3)).alloc (.cells #[.int .i64 stop] 3)).alloc (.cells #[.bool false] 4)) w.heap.size (.int .i64 (m : Int)) := ((One.new w _ _).alloc _).alloc _
  have P0 : One (((w.alloc (.cells #[.int .i64 (m : Int)] 3)).alloc (.cells #[.int .i64 stop] 3)).alloc (.cells #[.bool false] 4)) (w.heap.size + 1) (.int .i64 stop) := by
    have h := (One.new (w.alloc (.cells #[.int .i64 (m : Int)] 3)) (.int .i64 stop) 3).alloc (.cells #[.bool false] 4)
    simp only [World.size_alloc] at h
    exact h
  have R0 : One (((w.alloc (.cells #[.int .i64 (m : Int)] 3)).alloc (.cells #[.int .i64 stop] 3)).alloc (.cells #[.bool false] 4)) (w.heap.size + 1 + 1) (.bool false) := by
    have h := One.new ((w.alloc (.cells #[.int .i64 (m : Int)] 3)).alloc (.cells #[.int .i64 stop] 3)) (.bool false) 4
    simp only [World.size_alloc] at h
    exact h
  have B0 : Below w.heap.size w (((w.alloc (.cells #[.int .i64 (m : Int)] 3)).alloc (.cells #[.int .i64 stop] 3)).alloc (.cells #[.bool false] 4)) := (((Below.refl _ w).alloc (Nat.le_refl _) _).alloc (by simp) _).alloc (by simp; omega) _
  refine callsIn_of_wp_marks Try.func6 rfl trivial ?_ rfl
  simp only [Try.ntmps6, List.size_toArray, List.length_cons, List.length_nil, Nat.reduceAdd, Nat.reduceSub, Array.replicate_succ, Array.replicate_zero, List.push_toArray, List.append_toArray, List.nil_append, List.cons_append]
  gi_wp2_with (first
    | (refine ⟨trivial, ?_⟩; gi_at_call 9; refine (callsIn_wide.2 (alive3_any _)).mono ?_; rintro e wA ⟨rfl, hbA⟩; have SA := S0.call hbA; have PA := P0.call hbA; have RA := R0.call hbA; have BA := B0.trans (hbA.mono B0.size); have zA := RA.lt; clear S0 P0 R0 B0 hbA; obtain ⟨sc, sf⟩ := id SA; obtain ⟨s2, s3⟩ := id (SA.alloc (.cells #[.int .i64 0] 3)))
    | (refine ⟨trivial, ?_⟩; gi_at_call 17; refine (even_in Fence.wide _ trivial rfl _ _).mono ?_; rintro e w' ⟨rfl, rfl⟩))
  have T0 : One ((wA.alloc (.cells #[.int .i64 0] 3)).alloc (.cells #[.int .i64 (m : Int)] 3)) wA.heap.size (.int .i64 0) := (One.new wA _ _).alloc _
  have E0 : One ((wA.alloc (.cells #[.int .i64 0] 3)).alloc (.cells #[.int .i64 (m : Int)] 3)) (wA.heap.size + 1) (.int .i64 (m : Int)) := by
    have h := One.new (wA.alloc (.cells #[.int .i64 0] 3)) (.int .i64 (m : Int)) 3
    rw [World.size_alloc] at h
    exact h
  have S1 := (SA.alloc (.cells #[.int .i64 0] 3)).alloc (.cells #[.int .i64 (m : Int)] 3)
  have P1 := (PA.alloc (.cells #[.int .i64 0] 3)).alloc (.cells #[.int .i64 (m : Int)] 3)
  have R1 := (RA.alloc (.cells #[.int .i64 0] 3)).alloc (.cells #[.int .i64 (m : Int)] 3)
  have B1 : Below w.heap.size w ((wA.alloc (.cells #[.int .i64 0] 3)).alloc (.cells #[.int .i64 (m : Int)] 3)) := (BA.alloc BA.size _).alloc (by have := BA.size; simp; omega) _
  have z1 : ((wA.alloc (.cells #[.int .i64 0] 3)).alloc (.cells #[.int .i64 (m : Int)] 3)).heap.size = wA.heap.size + 1 + 1 := by simp
  clear SA PA RA BA sc sf s2 s3
  generalize (wA.alloc (.cells #[.int .i64 0] 3)).alloc (.cells #[.int .i64 (m : Int)] 3) = W1 at *
  refine wpIn_rangeFunc_ownH rfl (by omega) (gf := 24) (lb := #[.pointer (some ⟨wA.heap.size + 1, 0, none⟩)]) rfl trivial (enters_of Try.func24 (by kernel_rfl) rfl)
    (even_stops Fence.wide _ trivial rfl (by omega) (wA.heap.size + 1) w.heap.size m hm (by omega) W1 (by omega) (by omega) E0.c) belowK_t (belowK_b (by omega)) (Below.refl _ _) (fun _ => rfl)
    (fun pre W => (One W wA.heap.size (.int .i64 (pre.length : Int)) ∧ One W w.heap.size (.int .i64 (m : Int)) ∧ One W (w.heap.size + 1) (.int .i64 stop) ∧ One W (w.heap.size + 1 + 1) (.bool false) ∧ pre = evK m pre.length ∧ (pre.length = 0 ∨ ((pre.length : Int) == stop) = false)) ∧ Below w.heap.size w W)
    (fun c pre W => ((c = .ret ∧ ¬ pre = evK m pre.length) ∨ (c = .exit 0 ∧ ((pre.length : Int) == stop) = true ∧ One W wA.heap.size (.int .i64 (pre.length : Int)) ∧ One W w.heap.size (.int .i64 (m : Int)) ∧ One W (w.heap.size + 1) (.int .i64 stop) ∧ One W (w.heap.size + 1 + 1) (.bool false))) ∧ Below w.heap.size w W)
    (OwnFrom.and (Own.from (fun s A B row hs hg hr => ⟨One.own _ (fun _ : Unit => _) () A B row hs.1 hg hr, One.own _ (fun _ : Unit => _) () A B row hs.2.1 hg hr, One.own _ (fun _ : Unit => _) () A B row hs.2.2.1 hg hr, One.own _ (fun _ : Unit => _) () A B row hs.2.2.2.1 hg hr, hs.2.2.2.2⟩) _) (ownFrom_below (Nat.le_refl _) (by omega)))
    (fun c => OwnFrom.and (Own.from (fun s A B row hs hg hr => by
      rcases hs with hs | hs
      · exact Or.inl hs
      · exact Or.inr ⟨hs.1, hs.2.1, One.own _ (fun _ : Unit => _) () A B row hs.2.2.1 hg hr, One.own _ (fun _ : Unit => _) () A B row hs.2.2.2.1 hg hr, One.own _ (fun _ : Unit => _) () A B row hs.2.2.2.2.1 hg hr, One.own _ (fun _ : Unit => _) () A B row hs.2.2.2.2.2 hg hr⟩) _) (ownFrom_below (Nat.le_refl _) (by omega)))
    ⟨⟨T0, S1, P1, R1, rfl, Or.inl rfl⟩, B1⟩
    (fun x a' W => ∃ Bx, Two W Bx (.int .u64 x.1) (.int .u64 x.2) ∧ a' = { tmps := #[.int .i64 (m : Int), .int .i64 stop, .pointer (some ⟨w.heap.size, 0, none⟩), .pointer (some ⟨w.heap.size + 1, 0, none⟩), .pointer (some ⟨w.heap.size + 1 + 1, 0, none⟩), .pointer (some ⟨wA.heap.size, 0, none⟩), .pointer (some ⟨Bx, 0, none⟩), .bool true, .bool false, .int .i64 (m : Int), .bool (decide ((200 : Int) < (m : Int))), .int .i64 (m : Int), .func (.func 24) #[] #[.pointer (some ⟨wA.heap.size + 1, 0, none⟩)], .agg #[.int .u64 x.1, .int .u64 x.2], undef, undef, undef, undef, undef, undef, undef, undef, undef, undef, undef, undef, undef, undef, undef, undef, undef, undef, undef, undef, undef, undef, undef, undef, undef, undef, undef, undef, undef, undef, undef, undef, undef, undef, undef, undef, undef, undef, undef], defers := [] })
    (fun x a' _ X Y row hs hg hr => by
      obtain ⟨Bx, h, e⟩ := hs
      have hr' := fun r e => (hr r e).2
      exact ⟨Bx, ⟨cell_kept h.c0 hg hr', cell_kept h.c1 hg hr', (frozen_kept h.c0 hg hr').trans h.f0, (frozen_kept h.c1 hg hr').trans h.f1⟩, e⟩)
    ?assign ?body ?done ?stop
  case assign =>
    rintro l pre x W K ⟨⟨a1, a2, a3, a4, a5⟩, hB⟩ hK
    gi_wp2
    exact hK _ _ ((KeepsOthers.alloc _ _).from _) ((Below.refl _ W).alloc hB.size _) ⟨⟨a1.alloc _, a2.alloc _, a3.alloc _, a4.alloc _, a5⟩, hB.alloc hB.size _⟩ ⟨W.heap.size, Two.new W _ _ _, rfl⟩
  case body =>
    rintro l pre ⟨x1, x2⟩ a' W hl _ ⟨⟨a1, a2, a3, a4, hp, hst⟩, hB⟩ ⟨Bx, X, rfl⟩ hlt
    obtain ⟨j, hj⟩ : ∃ j : Nat, pre.length = j := ⟨_, rfl⟩
    have hjl : Hid ((pre ++ [(x1, x2)]).length = j + 1) := Lib.hid (by simp [hj])
    rw [hj] at a1 hp hlt
    obtain ⟨J, hJ⟩ : ∃ J : Int, (j : Int) = J := ⟨_, rfl⟩
    have hJ2 : Hid (((j + 1 : Nat) : Int) = J + 1) := Lib.hid (by omega)
    have j0 : 0 ≤ J := by omega
    have j1 : J < 18446744073709551616 := by omega
    have j2 : J + 1 < 9223372036854775808 := by omega
    have m1 : (m : Int) < 18446744073709551616 := by omega
    have z4 := a4.lt
    have z1' := a1.lt
    have N := Lib.hid (evK_next m j)
    have HP := Lib.hid hp
    rw [hJ] at a1 N
    have HJ := Lib.hid hJ
    clear hj hp hst hlt hJ
    obtain ⟨p0, p1⟩ := id a1
    obtain ⟨p2, p3⟩ := id a2
    obtain ⟨p4, p5⟩ := id a3
    obtain ⟨p6, p7⟩ := id a4
    obtain ⟨y0, y1, y2, y3⟩ := id X
    by_cases hx1 : x1 = J
    · subst hx1
      by_cases hx2 : x2 = (m : Int)
      · subst hx2
        have G : Hid (pre ++ [(x1, (m : Int))] = evK m (j + 1)) := Lib.hid (by rw [HP.out, N.out])
        by_cases hs2 : x1 + 1 = stop
        · have q3 : (x1 + 1 == stop) = true := by simp [hs2]
          have Q3 := Lib.hid hs2
          clear hs2
          gi_wp2
          refine ⟨(KeepsOthers.setCell _ _ _).from _, ⟨Or.inr ⟨rfl, by rw [hjl.out, hJ2.out]; exact Q3.out, by rw [hjl.out, hJ2.out]; exact a1.put _, a2.past (by omega) _, a3.past (by omega) _, a4.past (by omega) _⟩, hB.setCell (p := ⟨wA.heap.size, 0, none⟩) (by simp; omega) _⟩⟩
        · have q3 : (x1 + 1 == stop) = false := by simp [hs2]
          have Q3 := Lib.hid hs2
          clear hs2
          gi_wp2
          exact ⟨(KeepsOthers.setCell _ _ _).from _, (Below.refl w.heap.size W).setCell (p := ⟨wA.heap.size, 0, none⟩) (by simp; omega) _, ⟨⟨by rw [hjl.out, hJ2.out]; exact a1.put _, a2.past (by omega) _, a3.past (by omega) _, a4.past (by omega) _, by rw [hjl.out]; exact G.out, Or.inr (by rw [hjl.out, hJ2.out]; exact Q3.out)⟩, hB.setCell (p := ⟨wA.heap.size, 0, none⟩) (by simp; omega) _⟩⟩
      · have Bad := Lib.hid (ev_bad (x1 := x1) hx2 HP.out)
        have m0 : 0 ≤ (m : Int) := by omega
        generalize (m : Int) = M at *
        have q2 : (x2 == M) = false := by simp [hx2]
        gi_wp2
        exact ⟨(KeepsOthers.setCell _ _ _).from _, ⟨Or.inl ⟨rfl, Bad.out⟩, hB.setCell (p := ⟨w.heap.size + 1 + 1, 0, none⟩) (by simp; omega) _⟩⟩
    · have Bad := Lib.hid (ev_bad1 (x2 := x2) hx1 HJ.out HP.out)
      have q1 : (x1 == J) = false := by simp [hx1]
      gi_wp2
      exact ⟨(KeepsOthers.setCell _ _ _).from _, ⟨Or.inl ⟨rfl, Bad.out⟩, hB.setCell (p := ⟨w.heap.size + 1 + 1, 0, none⟩) (by simp; omega) _⟩⟩
  case done =>
    rintro D ys W hD rfl ⟨⟨a1, a2, a3, a4, _, hst⟩, hB⟩ hK
    rw [evK_len] at a1 hst
    have q1 : (((m + 1 : Nat) : Int) == stop) = false := by
      rcases hst with h | h
      · omega
      · exact h
    obtain ⟨J, hJ⟩ : ∃ J : Int, ((m + 1 : Nat) : Int) = J := ⟨_, rfl⟩
    rw [hJ] at a1 q1
    have q2 : (J == max (m : Int) (-1) + 1) = true := by simp; omega
    have q3 : (0 : Int) < (m : Int) := by omega
    have z4 := a4.lt
    clear hst hJ
    obtain ⟨p0, p1⟩ := id a1
    obtain ⟨p2, p3⟩ := id a2
    obtain ⟨p4, p5⟩ := id a3
    obtain ⟨p6, p7⟩ := id a4
    gi_wp2
    have hK' := (KeepsOthers.setCell W ⟨w.heap.size + 1 + 1, 0, none⟩ (.bool true)).same D _ hK rfl
    refine ⟨by simp, .inl ⟨_, _, rfl, run_takeDeferred hK', ?_⟩⟩
    have hc5 := cell_kept (World.cell?_setCell_same' W ⟨w.heap.size + 1 + 1, 0, none⟩ (.bool true) (by rw [p6]; rfl)) (grownBy_putObj' _ D (.deferred none)) (fun r e => by cases e; exact ⟨_, hK', rfl⟩)
    refine ⟨.bool true, ?_, rfl, (hB.setCell (p := ⟨w.heap.size + 1 + 1, 0, none⟩) (by simp; omega) _).trans (belowK_b (w := w) (Nat.le_refl _) _ D _ _ (by omega) hK' rfl rfl)⟩
    simp [results, Try.f6, go_sem, hc5]
  case stop =>
    rintro D c pre W hD hpre ⟨h | ⟨rfl, q1, a1, a2, a3, a4⟩, hB⟩ hK
    · exact absurd (evK_prefix hpre) h.2
    · generalize (pre.length : Int) = J at *
      have z4 := a4.lt
      obtain ⟨p0, p1⟩ := id a1
      obtain ⟨p2, p3⟩ := id a2
      obtain ⟨p4, p5⟩ := id a3
      obtain ⟨p6, p7⟩ := id a4
      gi_wp2
      have hK' := (KeepsOthers.setCell W ⟨w.heap.size + 1 + 1, 0, none⟩ (.bool true)).same D _ hK rfl
      refine ⟨by simp, .inl ⟨_, _, rfl, run_takeDeferred hK', ?_⟩⟩
      have hc5 := cell_kept (World.cell?_setCell_same' W ⟨w.heap.size + 1 + 1, 0, none⟩ (.bool true) (by rw [p6]; rfl)) (grownBy_putObj' _ D (.deferred none)) (fun r e => by cases e; exact ⟨_, hK', rfl⟩)
      refine ⟨.bool true, ?_, rfl, (hB.setCell (p := ⟨w.heap.size + 1 + 1, 0, none⟩) (by simp; omega) _).trans (belowK_b (w := w) (Nat.le_refl _) _ D _ _ (by omega) hK' rfl rfl)⟩
      simp [results, Try.f6, go_sem, hc5]
end Go.Proofs.Ytbllnhkfnbadgaa
