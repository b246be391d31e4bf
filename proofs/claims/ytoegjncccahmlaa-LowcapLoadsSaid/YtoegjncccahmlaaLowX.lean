/-
  Package lowcap does what the laws ask of it.
-/
import Derived.Test.YtoegjncccahmlaaLowR
import Derived.Test.YtoegjncccahmlaaStripX
namespace Go.Proofs.Ytoegjncccahmlaa
set_option linter.unusedVariables false
set_option linter.unusedSimpArgs false
open Go.RowKit Go.Shelf

/-- A lowcap over such strips. -/
abbrev LwX := LowX StX
theorem low_does : LowDoes LwX where
  keep := fun w w' B S m K T h hk => ⟨h.1, raw_keep strip_does h.2 hk⟩
  lt := fun w B S m K T h => raw_lt strip_does h.2
  lwp := fun w B S m K T h => h.1
  new := fun w m h1 h2 => (lnew_any strip_does w m h1 h2).mono fun e w' ⟨B, S, he, hr, hS, hb⟩ => ⟨B, S, he, ⟨Lwp.nil h1 h2, hr⟩, hS, hb⟩
  bad := fun w m hm hb => lbad_any strip_does w m hm hb
  add := fun w B S m K T i c h hl hi hc => ladd_any strip_does w B S m K T i c h hl hi hc
  merge := fun w B S m K T B' S' K' T' h h' hd hl hl' hs => ((callsIn_wide (n := 8)).1 (lmerge_in strip_does w B S m K T B' S' K' T' h h' hd hl hl' hs)).mono fun e w' ⟨he, S2, hr, hk, hS⟩ => ⟨S2, he, ⟨h.1.join h'.1 hs, hr⟩, hk, hS⟩
  other := fun w B S m K T B' S' m' K' T' h h' hm => by
    obtain ⟨_, C, S0, hb, _⟩ := h
    obtain ⟨_, C', S0', hb', _⟩ := h'
    exact lmerge_other w B B' m m' (three_cells hb).1 (three_cells hb').1 hm
  mnil := fun w B S m K T h => lmerge_none w B
  total := fun w B S m K T h hl => ltotal_raw strip_does h (by omega)
  lost := fun w B S m K T h => by
    obtain ⟨_, C, S0, hb, _⟩ := h
    exact (llost_at w B _ (three_cells hb).2.2).mono fun e w' => same_below (P := fun e => e = _)
  pairs := fun w B S m K T h hl => by
    obtain ⟨_, C, S0, hb, hst, _⟩ := h
    refine lpairs_of w _ _ _ (ownsl_at (three_cells hb).2.1) (fun e w' h => ?_) (strip_does.pairs _ _ _ _ _ hst (by omega))
    obtain ⟨v, rfl, ho, _⟩ := h
    obtain ⟨A, cap, rfl⟩ := ho.form
    exact ⟨A, _, cap, rfl⟩
  at_ := fun w B S m K T i h hl hi => by
    obtain ⟨_, C, S0, hb, hst, _⟩ := h
    exact lat_of w _ _ i _ (ownsl_at (three_cells hb).2.1) (strip_does.at_ _ _ _ _ _ i hst (by omega) hi)
  most := fun w B S m K T h => by
    obtain ⟨_, C, S0, hb, _⟩ := h
    exact (lmost_at w B _ (three_cells hb).1).mono fun e w' => same_below (P := fun e => e = _)
  find := fun w B S m K T t h hl ht => by
    obtain ⟨hp, C, S0, hb, hst, _⟩ := h
    have h1 := hp.sum
    have h2 := hp.top
    have h3 := hp.pos
    unfold Word at ht
    refine lfind_of w _ _ (T - sumP K) t _ _ (ownsl_at (three_cells hb).2.1) (lostsl_at (three_cells hb).2.2) ⟨by omega, by omega⟩ ht (fun hle => by unfold findL; rw [if_pos hle]; exact ⟨rfl, rfl⟩) (fun hlt => ?_)
    have e : findL K (T - sumP K) t = findP K (t - (T - sumP K)) := by unfold findL; rw [if_neg (by omega)]
    rw [e]
    exact strip_does.find _ _ _ _ _ _ hst (by omega) ⟨by omega, by omega⟩
  below := fun w B S m K T i h hl hi => by
    obtain ⟨hp, C, S0, hb, hst, _⟩ := h
    have h1 := hp.sum
    have h2 := hp.top
    have h3 := hp.pos
    have h4 := below_le (L := K) i (ok_pos hp.ok)
    have h5 : 0 ≤ belowP K i := (sumP_filter _ (ok_pos hp.ok)).1
    have hm := hp.m1
    have hm2 := hp.m2
    have hc : (K ≠ [] ∧ m < endP K - i) ↔ m < underV K i := by
      unfold underV
      constructor
      · rintro ⟨a, b⟩; rw [if_pos ⟨a, by omega⟩]; exact b
      · intro a
        split at a
        · rename_i h; exact ⟨h.1, a⟩
        · omega
    have hlt := strip_does.lt _ _ _ _ _ hst
    refine lbelow_of w _ _ m (T - sumP K) i (underV K i) (belowP K i) _ _ (ownsl_at (three_cells hb).2.1) (lostsl_at (three_cells hb).2.2) (fun w' hw => lmost_at w' B m (cell_later hw (three_cells hb).1)) (fun w' hw => ?_) ⟨by omega, by omega⟩ (under_word hp.ok hi) (by omega) hm2 (fun w' hw => ?_) h5 (by omega) ?_ ?_
    · exact lunder_of w' _ _ K i (ownsl_at (cell_later hw (three_cells hb).2.1)) hi (end_i64 hp.ok) (fir_i64 hp.ok) (strip_does.ends _ _ _ _ _ (strip_does.call hst hw) (by omega))
    · exact strip_does.below _ _ _ _ _ i (strip_does.call hst hw) (by omega) hi
    · unfold lowB
      by_cases h : m < underV K i
      · rw [if_pos (hc.2 h), if_pos h]
      · rw [if_neg (fun a => h (hc.1 a)), if_neg h]
    · unfold highB
      by_cases h : m < underV K i
      · rw [if_pos (hc.2 h), if_pos h]
      · rw [if_neg (fun a => h (hc.1 a)), if_neg h]
  load := fun w m A cap L l m1 m2 hP hl hw hb => (lload_any strip_does w m A cap L l m1 m2 hP hl hw hb).mono fun e w' ⟨B, S, he, hr, hS, hbb⟩ => by
    obtain ⟨h1, h2, h3, h4, h5⟩ := load_true hb
    refine ⟨B, S, he, ⟨⟨h1, hP.ok, ?_, by have := hw.1; omega, h4, m1, m2⟩, ?_⟩, hS, hbb⟩
    · have := take_kept (k := L.length) (m := m) (by omega) h1 h5
      rwa [List.take_length] at this
    · rw [show sumP L + l - sumP L = l by omega]
      exact hr
  unfit := fun w m A cap L l m1 m2 hP hl hw hb => lunfit_any strip_does w m A cap L l m1 m2 hP hl hw hb

set_option maxHeartbeats 400000 in
theorem ladd_nil (w : World) (i c : Int) (hi : I64 i) (hc : Word c) : Calls Try.prog 11 #[.pointer none, .int .i64 i, .int .u64 c] w fun e w' => e = .returned (.int .i64 2) ∧ Below w.heap.size w w' := by
  go_enter Try.func11, Try.ntmps11
  go_wp2_with fail
  go_ret
  exact ⟨rfl, Below.refl _ _⟩

theorem low_nil : LowNil where
  add := ladd_nil
  merge := lmerge_nil
  total := fun w => ltotal_of w none none 0 0 (ownsl_none w) (lostsl_none w) (strip_nil.total w) (by decide) (by decide) (by decide)
  lost := fun w => (llost_none w).mono fun e w' => same_below (P := fun e => e = _)
  pairs := fun w => lpairs_of w none none _ (ownsl_none w) (fun e w' h => by
    obtain ⟨A, cap, rfl, _⟩ := h
    exact ⟨A, 0, cap, rfl⟩) (strip_nil.pairs w)
  at_ := fun w i hi => lat_of w none none i 0 (ownsl_none w) (strip_nil.at_ w i hi)
  most := fun w => (lmost_none w).mono fun e w' => same_below (P := fun e => e = _)
  find := fun w t ht => lfind_of w none none 0 t 0 false (ownsl_none w) (lostsl_none w) ⟨by decide, by decide⟩ ht (fun _ => ⟨rfl, rfl⟩) (fun h => by
    rw [Int.sub_zero]
    exact strip_nil.find w t ht)
  below := fun w i hi => by
    refine lbelow_of w none none 0 0 i 0 0 0 0 (ownsl_none w) (lostsl_none w) (fun w' hw => lmost_none w') (fun w' hw => ?_) ⟨by decide, by decide⟩ ⟨by decide, by decide⟩ (by decide) (by decide) (fun w' hw => strip_nil.below w' i hi) (by decide) (by decide) (by decide) (by decide)
    exact lunder_of w' none none [] i (ownsl_none w') hi ⟨by decide, by decide⟩ ⟨by decide, by decide⟩ (strip_nil.ends w')
end Go.Proofs.Ytoegjncccahmlaa
