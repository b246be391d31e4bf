/-
  The walk of the law ShareEven, of fewer than one step, and of more than 200.
-/
import Derived.Test.YtbllnhkfnbadgaaEvenB
namespace Go.Proofs.Ytbllnhkfnbadgaa
set_option linter.unusedVariables false
set_option linter.unusedSimpArgs false
open Go.RowKit Go.Shelf
attribute [local go_sem] Oper.semAt_some

set_option maxRecDepth 1000000 in
set_option maxHeartbeats 4000000 in
theorem leven0_in (s stop : Int) (hs1 : s < 1) (ws : I64 s) (w : World) :
    CallsIn Fence.wide 8 Try.prog 6 #[.int .i64 s, .int .i64 stop] w fun e W' =>
      e = .returned (.bool true) ∧ Below w.heap.size w W' := by
  have i0 : ¬ (200 : Int) < s := by omega
  have S0 : One (((w.alloc (.cells #[.int .i64 s] 3)).alloc (.cells #[.int .i64 stop] 3)).alloc (.cells #[.bool false] 4)) w.heap.size (.int .i64 s) := ((One.new w _ _).alloc _).alloc _
  have P0 : One (((w.alloc (.cells #[.int .i64 s] 3)).alloc (.cells #[.int .i64 stop] 3)).alloc (.cells #[.bool false] 4)) (w.heap.size + 1) (.int .i64 stop) := by
    have h := (One.new (w.alloc (.cells #[.int .i64 s] 3)) (.int .i64 stop) 3).alloc (.cells #[.bool false] 4)
    simp only [World.size_alloc] at h
    exact h
  have R0 : One (((w.alloc (.cells #[.int .i64 s] 3)).alloc (.cells #[.int .i64 stop] 3)).alloc (.cells #[.bool false] 4)) (w.heap.size + 1 + 1) (.bool false) := by
    have h := One.new ((w.alloc (.cells #[.int .i64 s] 3)).alloc (.cells #[.int .i64 stop] 3)) (.bool false) 4
    simp only [World.size_alloc] at h
    exact h
  have B0 : Below w.heap.size w (((w.alloc (.cells #[.int .i64 s] 3)).alloc (.cells #[.int .i64 stop] 3)).alloc (.cells #[.bool false] 4)) := (((Below.refl _ w).alloc (Nat.le_refl _) _).alloc (by simp) _).alloc (by simp; omega) _
  refine callsIn_of_wp_marks Try.func6 rfl trivial ?_ rfl
  simp only [Try.ntmps6, List.size_toArray, List.length_cons, List.length_nil, Nat.reduceAdd, Nat.reduceSub, Array.replicate_succ, Array.replicate_zero, List.push_toArray, List.append_toArray, List.nil_append, List.cons_append]
  gi_wp2_with (first
    | (refine ⟨trivial, ?_⟩; gi_at_call 9; refine (callsIn_wide.2 (alive3_any _)).mono ?_; rintro e wA ⟨rfl, hbA⟩; have SA := S0.call hbA; have PA := P0.call hbA; have RA := R0.call hbA; have BA := B0.trans (hbA.mono B0.size); have zA := RA.lt; clear S0 P0 R0 B0 hbA; obtain ⟨sc, sf⟩ := id SA; obtain ⟨s2, s3⟩ := id (SA.alloc (.cells #[.int .i64 0] 3)))
    | (refine ⟨trivial, ?_⟩; gi_at_call 17; refine (even_in Fence.wide _ trivial rfl _ _).mono ?_; rintro e w' ⟨rfl, rfl⟩))
  have T0 : One ((wA.alloc (.cells #[.int .i64 0] 3)).alloc (.cells #[.int .i64 s] 3)) wA.heap.size (.int .i64 0) := (One.new wA _ _).alloc _
  have E0 : One ((wA.alloc (.cells #[.int .i64 0] 3)).alloc (.cells #[.int .i64 s] 3)) (wA.heap.size + 1) (.int .i64 s) := by
    have h := One.new (wA.alloc (.cells #[.int .i64 0] 3)) (.int .i64 s) 3
    rw [World.size_alloc] at h
    exact h
  have S1 := (SA.alloc (.cells #[.int .i64 0] 3)).alloc (.cells #[.int .i64 s] 3)
  have P1 := (PA.alloc (.cells #[.int .i64 0] 3)).alloc (.cells #[.int .i64 s] 3)
  have R1 := (RA.alloc (.cells #[.int .i64 0] 3)).alloc (.cells #[.int .i64 s] 3)
  have B1 : Below w.heap.size w ((wA.alloc (.cells #[.int .i64 0] 3)).alloc (.cells #[.int .i64 s] 3)) := (BA.alloc BA.size _).alloc (by have := BA.size; simp; omega) _
  have z1 : ((wA.alloc (.cells #[.int .i64 0] 3)).alloc (.cells #[.int .i64 s] 3)).heap.size = wA.heap.size + 1 + 1 := by simp
  clear SA PA RA BA sc sf s2 s3
  generalize (wA.alloc (.cells #[.int .i64 0] 3)).alloc (.cells #[.int .i64 s] 3) = W1 at *
  refine wpIn_rangeFunc_ownH rfl (by omega) (gf := 24) (lb := #[.pointer (some ⟨wA.heap.size + 1, 0, none⟩)]) rfl trivial (enters_of Try.func24 (by kernel_rfl) rfl)
    (even_none Fence.wide _ trivial rfl (by omega) (wA.heap.size + 1) w.heap.size s hs1 W1 (by omega) (by omega) E0.c) belowK_t (belowK_b (by omega)) (Below.refl _ _) (fun _ => rfl)
    (fun pre W => (One W wA.heap.size (.int .i64 0) ∧ One W w.heap.size (.int .i64 s) ∧ One W (w.heap.size + 1) (.int .i64 stop) ∧ One W (w.heap.size + 1 + 1) (.bool false)) ∧ Below w.heap.size w W)
    (fun _ _ _ => False)
    (OwnFrom.and (Own.from (fun s A B row hs hg hr => ⟨One.own _ (fun _ : Unit => _) () A B row hs.1 hg hr, One.own _ (fun _ : Unit => _) () A B row hs.2.1 hg hr, One.own _ (fun _ : Unit => _) () A B row hs.2.2.1 hg hr, One.own _ (fun _ : Unit => _) () A B row hs.2.2.2 hg hr⟩) _) (ownFrom_below (Nat.le_refl _) (by omega)))
    (fun _ _ _ _ _ hs _ _ => hs)
    ⟨⟨T0, S1, P1, R1⟩, B1⟩
    (fun x a' W => ∃ Bx, Two W Bx (.int .u64 x.1) (.int .u64 x.2) ∧ a' = { tmps := #[.int .i64 s, .int .i64 stop, .pointer (some ⟨w.heap.size, 0, none⟩), .pointer (some ⟨w.heap.size + 1, 0, none⟩), .pointer (some ⟨w.heap.size + 1 + 1, 0, none⟩), .pointer (some ⟨wA.heap.size, 0, none⟩), .pointer (some ⟨Bx, 0, none⟩), .bool true, .bool false, .int .i64 s, .bool (decide ((200 : Int) < s)), .int .i64 s, .func (.func 24) #[] #[.pointer (some ⟨wA.heap.size + 1, 0, none⟩)], .agg #[.int .u64 x.1, .int .u64 x.2], undef, undef, undef, undef, undef, undef, undef, undef, undef, undef, undef, undef, undef, undef, undef, undef, undef, undef, undef, undef, undef, undef, undef, undef, undef, undef, undef, undef, undef, undef, undef, undef, undef, undef, undef, undef, undef, undef, undef], defers := [] })
    (fun x a' _ X Y row hs hg hr => by
      obtain ⟨Bx, h, e⟩ := hs
      have hr' := fun r e => (hr r e).2
      exact ⟨Bx, ⟨cell_kept h.c0 hg hr', cell_kept h.c1 hg hr', (frozen_kept h.c0 hg hr').trans h.f0, (frozen_kept h.c1 hg hr').trans h.f1⟩, e⟩)
    ?assign ?body ?done ?stop
  case assign =>
    rintro l pre x W K ⟨⟨a1, a2, a3, a4⟩, hB⟩ hK
    gi_wp2
    exact hK _ _ ((KeepsOthers.alloc _ _).from _) ((Below.refl _ W).alloc hB.size _) ⟨⟨a1.alloc _, a2.alloc _, a3.alloc _, a4.alloc _⟩, hB.alloc hB.size _⟩ ⟨W.heap.size, Two.new W _ _ _, rfl⟩
  case body =>
    intro l pre x a' W hl _ _ _ hlt
    exact absurd hlt (Nat.not_lt_zero _)
  case done =>
    rintro D ys W hD rfl ⟨⟨a1, a2, a3, a4⟩, hB⟩ hK
    have z4 := a4.lt
    obtain ⟨p0, p1⟩ := id a1
    obtain ⟨p2, p3⟩ := id a2
    obtain ⟨p4, p5⟩ := id a3
    obtain ⟨p6, p7⟩ := id a4
    have ws1 := ws.1
    have ws2 := ws.2
    have g1 : ¬ 0 < s := by omega
    by_cases h1 : 0 = stop
    · have q1 : ((0 : Int) == stop) = true := by simp [← h1]
      clear h1
      gi_wp2
      have hK' := (KeepsOthers.setCell W ⟨w.heap.size + 1 + 1, 0, none⟩ (.bool true)).same D _ hK rfl
      refine ⟨by simp, .inl ⟨_, _, rfl, run_takeDeferred hK', ?_⟩⟩
      have hc5 := cell_kept (World.cell?_setCell_same' W ⟨w.heap.size + 1 + 1, 0, none⟩ (.bool true) (by rw [p6]; rfl)) (grownBy_putObj' _ D (.deferred none)) (fun r e => by cases e; exact ⟨_, hK', rfl⟩)
      refine ⟨.bool true, ?_, rfl, (hB.setCell (p := ⟨w.heap.size + 1 + 1, 0, none⟩) (by simp; omega) _).trans (belowK_b (w := w) (Nat.le_refl _) _ D _ _ (by omega) hK' rfl rfl)⟩
      simp [results, Try.f6, go_sem, hc5]
    · have q1 : ((0 : Int) == stop) = false := by simp [h1]
      clear h1
      by_cases h2 : s = 0
      · subst h2
        gi_wp2
        have hK' := (KeepsOthers.setCell W ⟨w.heap.size + 1 + 1, 0, none⟩ (.bool true)).same D _ hK rfl
        refine ⟨by simp, .inl ⟨_, _, rfl, run_takeDeferred hK', ?_⟩⟩
        have hc5 := cell_kept (World.cell?_setCell_same' W ⟨w.heap.size + 1 + 1, 0, none⟩ (.bool true) (by rw [p6]; rfl)) (grownBy_putObj' _ D (.deferred none)) (fun r e => by cases e; exact ⟨_, hK', rfl⟩)
        refine ⟨.bool true, ?_, rfl, (hB.setCell (p := ⟨w.heap.size + 1 + 1, 0, none⟩) (by simp; omega) _).trans (belowK_b (w := w) (Nat.le_refl _) _ D _ _ (by omega) hK' rfl rfl)⟩
        simp [results, Try.f6, go_sem, hc5]
      · have e : max s (-1) = -1 := by omega
        gi_wp2
        have hK' := (KeepsOthers.setCell W ⟨w.heap.size + 1 + 1, 0, none⟩ (.bool true)).same D _ hK rfl
        refine ⟨by simp, .inl ⟨_, _, rfl, run_takeDeferred hK', ?_⟩⟩
        have hc5 := cell_kept (World.cell?_setCell_same' W ⟨w.heap.size + 1 + 1, 0, none⟩ (.bool true) (by rw [p6]; rfl)) (grownBy_putObj' _ D (.deferred none)) (fun r e => by cases e; exact ⟨_, hK', rfl⟩)
        refine ⟨.bool true, ?_, rfl, (hB.setCell (p := ⟨w.heap.size + 1 + 1, 0, none⟩) (by simp; omega) _).trans (belowK_b (w := w) (Nat.le_refl _) _ D _ _ (by omega) hK' rfl rfl)⟩
        simp [results, Try.f6, go_sem, hc5]
  case stop =>
    rintro D c pre W hD hpre h hK
    exact h.elim

set_option maxRecDepth 1000000 in
set_option maxHeartbeats 4000000 in
theorem leven2_any (s stop : Int) (hs1 : 200 < s) (w : World) :
    Calls Try.prog 6 #[.int .i64 s, .int .i64 stop] w fun e W' =>
      e = .returned (.bool true) ∧ Below w.heap.size w W' := by
  have S0 : One (((w.alloc (.cells #[.int .i64 s] 3)).alloc (.cells #[.int .i64 stop] 3)).alloc (.cells #[.bool false] 4)) w.heap.size (.int .i64 s) := ((One.new w _ _).alloc _).alloc _
  have P0 : One (((w.alloc (.cells #[.int .i64 s] 3)).alloc (.cells #[.int .i64 stop] 3)).alloc (.cells #[.bool false] 4)) (w.heap.size + 1) (.int .i64 stop) := by
    have h := (One.new (w.alloc (.cells #[.int .i64 s] 3)) (.int .i64 stop) 3).alloc (.cells #[.bool false] 4)
    simp only [World.size_alloc] at h
    exact h
  have R0 : One (((w.alloc (.cells #[.int .i64 s] 3)).alloc (.cells #[.int .i64 stop] 3)).alloc (.cells #[.bool false] 4)) (w.heap.size + 1 + 1) (.bool false) := by
    have h := One.new ((w.alloc (.cells #[.int .i64 s] 3)).alloc (.cells #[.int .i64 stop] 3)) (.bool false) 4
    simp only [World.size_alloc] at h
    exact h
  have B0 : Below w.heap.size w (((w.alloc (.cells #[.int .i64 s] 3)).alloc (.cells #[.int .i64 stop] 3)).alloc (.cells #[.bool false] 4)) := (((Below.refl _ w).alloc (Nat.le_refl _) _).alloc (by simp) _).alloc (by simp; omega) _
  go_enter Try.func6, Try.ntmps6
  go_wp2_with fail
  refine (alive3_any _).mono ?_
  rintro e wA ⟨rfl, hbA⟩
  obtain ⟨s0, s1⟩ := S0.call hbA
  obtain ⟨r0, r1⟩ := R0.call hbA
  have BA := B0.trans (hbA.mono B0.size)
  clear S0 P0 R0 B0 hbA
  go_wp2_with fail
  refine bodyPost_ret (v := .bool true) (by simp [results, Try.results6, go_sem, r0]) rfl ⟨rfl, ?_⟩
  exact BA.setCell (p := ⟨w.heap.size + 1 + 1, 0, none⟩) (by simp; omega) _

theorem leven_walk (s stop : Int) (ws : I64 s) (wt : I64 stop) (w : World) :
    Calls Try.prog 6 #[.int .i64 s, .int .i64 stop] w fun e W' =>
      e = .returned (.bool true) ∧ Below w.heap.size w W' := by
  by_cases h1 : s < 1
  · exact (callsIn_wide (n := 8)).1 (leven0_in s stop h1 ws w)
  · by_cases h2 : 200 < s
    · exact leven2_any s stop h2 w
    · obtain ⟨m, rfl⟩ := Int.eq_ofNat_of_zero_le (show 0 ≤ s by omega)
      exact (callsIn_wide (n := 8)).1 (leven_in m stop (by omega) (by omega) wt w)
end Go.Proofs.Ytbllnhkfnbadgaa
