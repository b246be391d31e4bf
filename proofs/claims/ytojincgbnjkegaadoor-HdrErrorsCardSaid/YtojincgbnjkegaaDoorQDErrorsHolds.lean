/-
  Called with any configuration, values and value, the law HdrErrors returns true, and its arguments read as they did; the package variable spans.tens holds what its initialiser lays.
-/
import Derived.Test.YtojincgbnjkegaaDoorK4
import Derived.Test.YtojincgbnjkegaaDoorQHdL
import Derived.Test.YtojincgbnjkegaaDoorTie
import Derived.Test.YtojincgbnjkegaaDoorCards
import Derived.LaidMore
import Derived.Lay
import Derived.SevenTiedAt
namespace Go.Proofs.YtojincgbnjkegaaDoor
set_option linter.unusedVariables false
open Go.ChangeShapes Go.WideShapes Go.ChangeAt Go.RowKit Go.Joins

set_option maxRecDepth 100000 in
theorem hdrErrors_lifted (os : Os) (started : os.Started) (H : Type) (enc : TypeId × Value → H) :
    ReturnsInHanded {} Tryd.checked os 7 .any (fun w args => (Rows.hdrErrorsSpec.pre enc Tryd.prog Tryd.f7 Rows.hdrErrorsRow.domain false w args ∧ laidMetH Tryd.prog Rows.hdrErrorsRow.laid w) ∧ sizedMet enc Tryd.prog Tryd.f7 (OpenSpec.ofChange Rows.hdrErrorsSpec) false w args)
      (Rows.hdrErrorsSpec.post enc Tryd.prog Tryd.f7 false true false false) := by
  refine returnsInHanded_of_change_and (C := Tryd.checked) (X := fun w _ => laidMetH Tryd.prog Rows.hdrErrorsRow.laid w) (fun _ _ _ hh h => h.of_heap hh) own started (by kernel_rfl) Tryd.func7
    (ChangeSpec.witness_shaped (enc := enc) (C := Tryd.checked) (os := os) (X := fun w _ => laidMetH Tryd.prog Rows.hdrErrorsRow.laid w) false (World.laidAll Tryd.prog os Rows.hdrErrorsRow.laid) #[.agg #[.int .i64 0, .int .u64 0], .slice none 0 0, .int .i64 0] 8 (World.laidAll_os _ _ _)
      (World.shaped_of_ZipB (by kernel_rfl) (by kernel_rfl)) (by kernel_rfl) (by kernel_rfl) (by kernel_rfl)
      (by rw [MakeChecks.laidMetH_plain _ _ _ (by kernel_rfl)]; exact laidMet_laidAll _ (by kernel_rfl) (by kernel_rfl))) ?_
  intro W base args ds gs before hval0 hW hcnd hsz0 hL _
  have hsz : (DataW.weightsEach Tryd.prog (Tryd.f7.params.toList ++ Rows.hdrErrorsSpec.plain.varTypes Tryd.prog) (ds ++ gs)).all (· ≤ reachBytes) = true := hsz0
  clear hsz0
  have hval : ∀ (j : Nat) t v, Tryd.f7.params[j]? = some t → args[j]? = some v → Value.okWide Tryd.prog W .any base t v := hval0
  have hW' := hW
  obtain ⟨p, q, hA0, hV, rfl, hfz, hnd⟩ := hW
  have hA : DataW.TrodAll enc Tryd.prog W 0 (fun _ => true) true Tryd.f7.params.toList args.toList ds p := hA0
  rw [Tryd.params7] at hA hval hsz
  obtain ⟨v0, vs0, d0, ds0, p0, q0, hargs, rfl, rfl, h0, r0⟩ := trodAll_cons hA
  obtain ⟨v1, vs1, d1, ds1, p1, q1, rfl, rfl, rfl, h1, r1⟩ := trodAll_cons r0
  obtain ⟨v2, vs2, d2, ds2, p2, q2, rfl, rfl, rfl, h2, r2⟩ := trodAll_cons r1
  obtain ⟨rfl, rfl, rfl⟩ := trodAll_nil r2
  obtain rfl : args = #[v0, v1, v2] := by cases args; simp_all
  obtain ⟨rfl, rfl⟩ := trodVars_none hV
  simp only [List.append_nil] at hW'
  obtain ⟨cd, cl, rfl, rfl, rfl, f_cd, f_cl⟩ := cfg_opens (hval 0 52 v0 rfl rfl) h0
  have hz1 : ∀ n ∈ DataW.weights Tryd.prog 22 d1, n ≤ reachBytes := fun n hn => by simpa using List.all_eq_true.1 hsz n (DataW.weights_mem_each (j := 1) (t := 22) (d := d1) rfl rfl n hn)
  have hlt1 : ∀ x ∈ p1, x.block < W.heap.size := fun x hx => hW'.lt x (by simp [hx])
  have h1k := h1
  obtain ⟨A1, c1, b, rfl, hI1, hl1⟩ := open_vals (hval 1 22 v1 rfl rfl) h1 hz1
  obtain ⟨x, rfl, rfl, rfl, f_x⟩ := open_int Tryd.underlying2 (hval 2 2 v2 rfl rfl) h2
  clear hA0 hval0
  refine (hdr_errors_walk strip_does strip_nil cd cl A1 c1 b x (i64_of_wf f_cd) (word_of_wf f_cl) (i64_of_wf f_x) W hI1 hl1 (tens_of_laid hL)).mono fun e W' ⟨he, bel⟩ => ?_
  subst he
  exact ⟨_, rfl, _, _, _, [], _, [], hW', trodAll_mk1 (shut_bool Tryd.underlying4 _), (trodAll_cons_mk (cfg_reads f_cd f_cl _ _) (trodAll_cons_mk (Below.trod laidOut (by kernel_rfl) (of_decide_eq_true (by kernel_rfl)) h1k bel hlt1) (trodAll_cons_mk (shut_int Tryd.underlying2 f_x) trodAll_mk0))), rfl, bel.frame _, fun h => by cases h⟩

/-- Called with any configuration, values and value, the law HdrErrors returns true, and its arguments read as they did; the package variable spans.tens holds what its initialiser lays. (Here: wherever the listed variable reads as the program's text lays it.) -/
theorem hdrErrors_holds : Rows.HdrErrorsSaid :=
  OpenClaim.holds_of_wide 7 Tryd.f7 rfl rfl rfl rfl rfl rfl rfl ⟨rfl, rfl, rfl, rfl, rfl⟩ rfl rfl rfl rfl rfl (by kernel_rfl) Tryd.func7 (by kernel_rfl)
    (of_decide_eq_true (by kernel_rfl)) (by unfold Func.isWrapper; first | (rw [if_pos (by decide +kernel)]; kernel_rfl) | (rw [if_neg (by decide +kernel)]; exact ⟨rfl, rfl⟩))
    (fun os started H enc _ => hdrErrors_lifted os started H enc)

/-- The tied card: Called with any configuration, values and value, the law HdrErrors returns true, and its arguments read as they did; the package variable spans.tens holds what its initialiser lays. -/
theorem hdrErrors_card_holds : Rows.HdrErrorsCardSaid :=
  Claim7.holds_tied_plain_at .later [] [.data] true _ _ hdrErrors_holds (fun _ h => by cases h) (by kernel_rfl) (fun _ h => by cases h) hdrErrors_row_tie rfl ⟨rfl, rfl⟩ (by kernel_rfl) rfl
    (fun f fn hf hfn => by
      obtain rfl : f = 7 := Option.some.inj ((show Tryd.prog.funcNamed "ogive/ogivelaw15.HdrErrors" = some 7 by kernel_rfl).symm.trans hf) |>.symm
      obtain rfl : fn = Tryd.f7 := (Option.some.inj (Tryd.func7.symm.trans hfn)).symm
      exact ⟨by kernel_rfl, fun j t ht => by
        rw [Tryd.params7] at ht
        have hm : t ∈ [52, 22, 2] := by simpa using Array.mem_of_getElem? ht
        have hall : ([52, 22, 2].all fun u => !Tryd.prog.wantsStandIn u) = true := by kernel_rfl
        exact (show Tryd.prog.wantsStandIn t = false by simpa using List.all_eq_true.1 hall t hm)⟩)
    (by kernel_rfl)
#print axioms hdrErrors_card_holds
end Go.Proofs.YtojincgbnjkegaaDoor
