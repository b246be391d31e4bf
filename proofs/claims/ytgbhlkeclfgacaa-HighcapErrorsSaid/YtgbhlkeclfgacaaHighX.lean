/-
  Package highcap does what the laws ask of it.
-/
import Derived.Test.YtgbhlkeclfgacaaHighR
import Derived.Test.YtgbhlkeclfgacaaStripX
namespace Go.Proofs.Ytgbhlkeclfgacaa
set_option linter.unusedVariables false
set_option linter.unusedSimpArgs false
open Go.RowKit

/-- A highcap over such strips. -/
abbrev HwX := HighX StX
theorem high_does : HighDoes HwX where
  keep := fun w w' B S m K T h hk => ⟨h.1, hraw_keep strip_does h.2 hk⟩
  lt := fun w B S m K T h => hraw_lt strip_does h.2
  lwp := fun w B S m K T h => h.1
  new := fun w m h1 h2 => (hlnew_any strip_does w m h1 h2).mono fun e w' ⟨B, S, he, hr, hS, hb⟩ => ⟨B, S, he, ⟨Hgp.nil h1 h2, hr⟩, hS, hb⟩
  bad := fun w m hm hb => hlbad_any strip_does w m hm hb
  add := fun w B S m K T i c h hl hi hc => hladd_any strip_does w B S m K T i c h hl hi hc
  merge := fun w B S m K T B' S' K' T' h h' hd hl hl' hs => (hlmerge_any strip_does w B S m K T B' S' K' T' h h' hd hl hl' hs).mono fun e w' ⟨he, S2, hr, hk, hS⟩ => ⟨S2, he, ⟨h.1.join h'.1 hs, hr⟩, hk, hS⟩
  other := fun w B S m K T B' S' m' K' T' h h' hm => by
    obtain ⟨_, C, S0, hb, _⟩ := h
    obtain ⟨_, C', S0', hb', _⟩ := h'
    exact hlmerge_other w B B' m m' (three_cells hb).1 (three_cells hb').1 hm
  mnil := fun w B S m K T h => hlmerge_none w B
  total := fun w B S m K T h hl => hltotal_raw strip_does h (by omega)
  lost := fun w B S m K T h => by
    obtain ⟨_, C, S0, hb, _⟩ := h
    exact (hllost_at w B _ (three_cells hb).2.2).mono fun e w' => same_below (P := fun e => e = _)
  pairs := fun w B S m K T h hl => by
    obtain ⟨_, C, S0, hb, hst, _⟩ := h
    refine hlpairs_of w _ _ _ (ownsh_at (three_cells hb).2.1) (fun e w' h => ?_) (strip_does.pairs _ _ _ _ _ hst (by omega))
    obtain ⟨v, rfl, ho, _⟩ := h
    obtain ⟨A, cap, rfl⟩ := ho.form
    exact ⟨A, _, cap, rfl⟩
  at_ := fun w B S m K T i h hl hi => by
    obtain ⟨_, C, S0, hb, hst, _⟩ := h
    exact hlat_of w _ _ i _ (ownsh_at (three_cells hb).2.1) (strip_does.at_ _ _ _ _ _ i hst (by omega) hi)
  most := fun w B S m K T h => by
    obtain ⟨_, C, S0, hb, _⟩ := h
    exact (hlmost_at w B _ (three_cells hb).1).mono fun e w' => same_below (P := fun e => e = _)
  find := fun w B S m K T t h hl ht => by
    obtain ⟨hp, C, S0, hb, hst, _⟩ := h
    exact hlfind_of w _ _ t _ _ (ownsh_at (three_cells hb).2.1) ht (strip_does.find _ _ _ _ _ _ hst (by omega) ht)
  below := fun w B S m K T i h hl hi => by
    obtain ⟨hp, C, S0, hb, hst, _⟩ := h
    have h1 := hp.sum
    have h2 := hp.top
    have h3 := hp.pos
    have h4 := below_le (L := K) i (ok_pos hp.ok)
    have h5 : 0 ≤ belowP K i := (sumP_filter _ (ok_pos hp.ok)).1
    obtain ⟨u, hu⟩ : ∃ u, losB m K i = u := ⟨_, rfl⟩
    refine hlbelow_of w _ _ (T - sumP K) i (belowP K i) _ u (ownsh_at (three_cells hb).2.1) (fun w' hw => ?_) (fun _ => ⟨B, rfl, (three_cells hb).2.2⟩) (fun w' hw => ?_) h5 (by omega) (by omega) ?_
    · exact hloses_of w' _ _ m K i u (ownsh_at (cell_later hw (three_cells hb).2.1)) hi (end_i64 hp.ok) (beg_i64 hp.ok) hp.m1 hp.m2 (fun _ => ⟨B, rfl, cell_later hw (three_cells hb).1⟩) (strip_does.ends _ _ _ _ _ (strip_does.call hst hw) (by omega)) hu
    · exact strip_does.below _ _ _ _ _ i (strip_does.call hst hw) (by omega) hi
    · unfold highBH
      by_cases h : K ≠ [] ∧ m ≤ i - begP K
      · rw [if_pos h, if_pos (by rw [← hu]; exact los_true.2 h)]
      · rw [if_neg h, if_neg (by rw [← hu]; exact fun e => h (los_true.1 e))]
  load := fun w m A cap L l m1 m2 hP hl hw hb => (hlload_any strip_does w m A cap L l m1 m2 hP hl hw hb).mono fun e w' ⟨B, S, he, hr, hS, hbb⟩ => by
    obtain ⟨h1, h2, h3, h4, h5⟩ := load_true hb
    refine ⟨B, S, he, ⟨⟨h1, hP.ok, ?_, by have := hw.1; omega, h4, m1, m2⟩, ?_⟩, hS, hbb⟩
    · have := htake_kept (k := L.length) (m := m) (by omega) h1 h5
      rwa [List.take_length] at this
    · rw [show sumP L + l - sumP L = l by omega]
      exact hr
  unfit := fun w m A cap L l m1 m2 hP hl hw hb => hlunfit_any strip_does w m A cap L l m1 m2 hP hl hw hb

set_option maxHeartbeats 400000 in
theorem hladd_nil (w : World) (i c : Int) (hi : I64 i) (hc : Word c) : Calls Try.prog 11 #[.pointer none, .int .i64 i, .int .u64 c] w fun e w' => e = .returned (.int .i64 2) ∧ Below w.heap.size w w' := by
  go_enter Try.func11, Try.ntmps11
  go_wp2_with fail
  go_ret
  exact ⟨rfl, Below.refl _ _⟩

theorem high_nil : HighNil where
  add := hladd_nil
  merge := hlmerge_nil
  total := fun w => hltotal_of w none none 0 0 (ownsh_none w) (lostsh_none w) (strip_nil.total w) (by decide) (by decide) (by decide)
  lost := fun w => (hllost_none w).mono fun e w' => same_below (P := fun e => e = _)
  pairs := fun w => hlpairs_of w none none _ (ownsh_none w) (fun e w' h => by
    obtain ⟨A, cap, rfl, _⟩ := h
    exact ⟨A, 0, cap, rfl⟩) (strip_nil.pairs w)
  at_ := fun w i hi => hlat_of w none none i 0 (ownsh_none w) (strip_nil.at_ w i hi)
  most := fun w => (hlmost_none w).mono fun e w' => same_below (P := fun e => e = _)
  find := fun w t ht => hlfind_of w none none t 0 false (ownsh_none w) ht (strip_nil.find w t ht)
  below := fun w i hi => by
    refine hlbelow_of w none none 0 i 0 0 false (ownsh_none w) (fun w' hw => ?_) (fun h => by cases h) (fun w' hw => strip_nil.below w' i hi) (by decide) (by decide) (by decide) (by decide)
    exact hloses_of w' none none 1 [] i false (ownsh_none w') hi ⟨by decide, by decide⟩ ⟨by decide, by decide⟩ (by decide) (by decide) (fun h => absurd rfl h) (strip_nil.ends w') rfl
end Go.Proofs.Ytgbhlkeclfgacaa
