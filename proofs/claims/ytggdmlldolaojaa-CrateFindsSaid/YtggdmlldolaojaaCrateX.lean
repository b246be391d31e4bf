/-
  Package crate does what the laws ask of it.
-/
import Derived.Test.YtggdmlldolaojaaCrateW
import Derived.Test.YtggdmlldolaojaaCrateK
namespace Go.Proofs.Ytggdmlldolaojaa
set_option linter.unusedVariables false
set_option linter.unusedSimpArgs false
open Go.RowKit

theorem goes_later {w : World} {B : Nat} {S : Nat → Prop} {L : List PairV} (h : CrX w B S L) : ∀ w', Below w.heap.size w w' → Calls Try.prog 18 #[.pointer (some ⟨B, 0, none⟩)] w' (Goes 7 S L w') :=
  fun w' hb => call_goes 7 w' B S L (by omega) (crx_keep _ _ _ _ _ h (fun k hk => hb.block k (crx_lt _ _ _ _ h k hk)))
theorem cat_crx (w : World) (B : Nat) (S : Nat → Prop) (L : List PairV) (i : Int) (h : CrX w B S L) (hi : I64 i) :
    Calls Try.prog 16 #[.pointer (some ⟨B, 0, none⟩), .int .i64 i] w fun e w' => e = .returned (.int .u64 (countP L i)) ∧ Below w.heap.size w w' := by
  obtain ⟨hc, ⟨rfl, h2, h3⟩ | ⟨h1, G, n, h2, h3, h4, h5⟩⟩ := h
  · exact (cat_zero w B i hi h2.c3).mono fun e w' ⟨h1, h2⟩ => ⟨h1, h2 ▸ Below.refl _ _⟩
  · have hsp : spreadP L = lastP L - headP L := rfl
    have hf := hc.far
    rw [hsp] at h4 hf
    refine (cat_lay w B G _ _ _ n L i _ h2 (sum_pos hc.good h1) (by have := hc.sum; omega) (head_i64 hc.ok) (last_i64 hc.ok) h4 (by omega) hi (fun ho => count_out hc.good ho) rfl).mono ?_
    rintro e w' ⟨h1, m, rfl⟩
    exact ⟨h1, below_drewN (Below.refl _ _) m⟩
theorem find_zero (L : List PairV) : findP L 0 = none := by unfold findP; rw [if_neg (by omega)]
theorem crate_does : CrateDoes CrX where
  keep := crx_keep
  lt := crx_lt
  crt := fun w B S L h => h.1
  new := cnew_any
  add := fun w B S L i c h hi hc => cadd_any w B S L i c h hi hc
  at_ := cat_crx
  total := fun w B S L h => (ctotal_at w B _ (crx_sum h).1).mono fun e w' ⟨h1, h2⟩ => ⟨h1, h2 ▸ Below.refl _ _⟩
  pairs := fun w B S L h => (callsIn_wide (n := 8)).1 (cpairs_in w _ S L (crx_lt _ _ _ _ h) (by have := len_spread h.1.good; have := h.1.far; omega) (goes_later h))
  find := fun w B S L t h ht => by
    by_cases h0 : t = 0
    · subst h0
      rw [find_zero]
      exact cfind_zero w _
    · exact (callsIn_wide (n := 8)).1 (cfind_in w _ S L t (crx_lt _ _ _ _ h) h.1.good ht (by unfold Word at ht; omega) (goes_later h))
  below := fun w B S L i h hi => (callsIn_wide (n := 8)).1 (cbelow_in w _ S L i (crx_lt _ _ _ _ h) h.1.good h.1.sum hi (goes_later h))

set_option maxHeartbeats 400000 in
theorem cadd_nil (w : World) (i c : Int) (hi : I64 i) (hc : Word c) : Calls Try.prog 10 #[.pointer none, .int .i64 i, .int .u64 c] w fun e w' => e = .returned (.int .i64 2) ∧ Below w.heap.size w w' := by
  go_enter Try.func10, Try.ntmps10
  go_wp2_with fail
  go_ret
  exact ⟨rfl, Below.refl _ _⟩
theorem goes_nil (w : World) : ∀ w', Below w.heap.size w w' → Calls Try.prog 18 #[.pointer none] w' (Goes 7 (fun _ => False) [] w') := fun w' _ => nil_goes 7 w' (by omega)
theorem crate_nil : CrateNil where
  add := cadd_nil
  at_ := fun w i hi => (cat_none w i hi).mono fun e w' ⟨h1, h2⟩ => ⟨h1, h2 ▸ Below.refl _ _⟩
  total := fun w => (ctotal_none w).mono fun e w' ⟨h1, h2⟩ => ⟨h1, h2 ▸ Below.refl _ _⟩
  pairs := fun w => ((callsIn_wide (n := 8)).1 (cpairs_in w none _ [] (fun _ h => h.elim) (by simp) (goes_nil w))).mono fun e w' ⟨v, h1, h2, h3⟩ => by
    obtain ⟨A, cap, rfl⟩ := h2.form
    exact ⟨A, cap, h1, h3⟩
  find := fun w t ht => by
    by_cases h0 : t = 0
    · subst h0
      exact cfind_zero w _
    · refine ((callsIn_wide (n := 8)).1 (cfind_in w none _ [] t (fun _ h => h.elim) good_nil ht (by unfold Word at ht; omega) (goes_nil w))).mono fun e w' ⟨h1, h2⟩ => ⟨?_, h2⟩
      rw [h1]
      have : findP [] t = none := by unfold findP; split <;> rfl
      rw [this]; rfl
  below := fun w i hi => ((callsIn_wide (n := 8)).1 (cbelow_in w none _ [] i (fun _ h => h.elim) good_nil (by decide) hi (goes_nil w))).mono fun e w' ⟨h1, h2⟩ => ⟨h1, h2⟩
  all := fun n w hn => nil_goes n w hn
end Go.Proofs.Ytggdmlldolaojaa
