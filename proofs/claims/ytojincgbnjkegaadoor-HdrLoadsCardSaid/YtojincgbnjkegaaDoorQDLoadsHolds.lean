/-
  Called with any number of digits, values, value, row and ends, the law HdrLoads returns true, and its arguments read as they did; the package variable spans.tens holds what its initialiser lays.
-/
import Derived.Test.YtojincgbnjkegaaDoorK4
import Derived.Test.YtojincgbnjkegaaDoorQHdO
import Derived.Test.YtojincgbnjkegaaDoorTie
import Derived.Test.YtojincgbnjkegaaDoorCards
import Derived.LaidMore
import Derived.Lay
import Derived.SevenTiedAt
namespace Go.Proofs.YtojincgbnjkegaaDoor
set_option linter.unusedVariables false
open Go.ChangeShapes Go.WideShapes Go.ChangeAt Go.RowKit Go.Joins

set_option maxRecDepth 100000 in
theorem hdrLoads_lifted (os : Os) (started : os.Started) (H : Type) (enc : TypeId × Value → H) :
    ReturnsInHanded {} Tryd.checked os 8 .any (fun w args => (Rows.hdrLoadsSpec.pre enc Tryd.prog Tryd.f8 Rows.hdrLoadsRow.domain false w args ∧ laidMetH Tryd.prog Rows.hdrLoadsRow.laid w) ∧ sizedMet enc Tryd.prog Tryd.f8 (OpenSpec.ofChange Rows.hdrLoadsSpec) false w args)
      (Rows.hdrLoadsSpec.post enc Tryd.prog Tryd.f8 false true false false) := by
  refine returnsInHanded_of_change_and (C := Tryd.checked) (X := fun w _ => laidMetH Tryd.prog Rows.hdrLoadsRow.laid w) (fun _ _ _ hh h => h.of_heap hh) own started (by kernel_rfl) Tryd.func8
    (ChangeSpec.witness_shaped (enc := enc) (C := Tryd.checked) (os := os) (X := fun w _ => laidMetH Tryd.prog Rows.hdrLoadsRow.laid w) false (World.laidAll Tryd.prog os Rows.hdrLoadsRow.laid) #[.int .i64 0, .slice none 0 0, .int .i64 0, .slice none 0 0, .agg #[.int .i64 0, .int .i64 0]] 8 (World.laidAll_os _ _ _)
      (World.shaped_of_ZipB (by kernel_rfl) (by kernel_rfl)) (by kernel_rfl) (by kernel_rfl) (by kernel_rfl)
      (by rw [MakeChecks.laidMetH_plain _ _ _ (by kernel_rfl)]; exact laidMet_laidAll _ (by kernel_rfl) (by kernel_rfl))) ?_
  intro W base args ds gs before hval0 hW hcnd hsz0 hL _
  have hsz : (DataW.weightsEach Tryd.prog (Tryd.f8.params.toList ++ Rows.hdrLoadsSpec.plain.varTypes Tryd.prog) (ds ++ gs)).all (· ≤ reachBytes) = true := hsz0
  clear hsz0
  have hval : ∀ (j : Nat) t v, Tryd.f8.params[j]? = some t → args[j]? = some v → Value.okWide Tryd.prog W .any base t v := hval0
  have hW' := hW
  obtain ⟨p, q, hA0, hV, rfl, hfz, hnd⟩ := hW
  have hA : DataW.TrodAll enc Tryd.prog W 0 (fun _ => true) true Tryd.f8.params.toList args.toList ds p := hA0
  rw [Tryd.params8] at hA hval hsz
  obtain ⟨v0, vs0, d0, ds0, p0, q0, hargs, rfl, rfl, h0, r0⟩ := trodAll_cons hA
  obtain ⟨v1, vs1, d1, ds1, p1, q1, rfl, rfl, rfl, h1, r1⟩ := trodAll_cons r0
  obtain ⟨v2, vs2, d2, ds2, p2, q2, rfl, rfl, rfl, h2, r2⟩ := trodAll_cons r1
  obtain ⟨v3, vs3, d3, ds3, p3, q3, rfl, rfl, rfl, h3, r3⟩ := trodAll_cons r2
  obtain ⟨v4, vs4, d4, ds4, p4, q4, rfl, rfl, rfl, h4, r4⟩ := trodAll_cons r3
  obtain ⟨rfl, rfl, rfl⟩ := trodAll_nil r4
  obtain rfl : args = #[v0, v1, v2, v3, v4] := by cases args; simp_all
  obtain ⟨rfl, rfl⟩ := trodVars_none hV
  simp only [List.append_nil] at hW'
  obtain ⟨d, rfl, rfl, rfl, f_d⟩ := open_int Tryd.underlying3 (hval 0 3 v0 rfl rfl) h0
  have hz1 : ∀ n ∈ DataW.weights Tryd.prog 22 d1, n ≤ reachBytes := fun n hn => by simpa using List.all_eq_true.1 hsz n (DataW.weights_mem_each (j := 1) (t := 22) (d := d1) rfl rfl n hn)
  have hlt1 : ∀ x ∈ p1, x.block < W.heap.size := fun x hx => hW'.lt x (by simp [hx])
  have h1k := h1
  obtain ⟨A1, c1, b, rfl, hI1, hl1⟩ := open_vals (hval 1 22 v1 rfl rfl) h1 hz1
  obtain ⟨x, rfl, rfl, rfl, f_x⟩ := open_int Tryd.underlying2 (hval 2 2 v2 rfl rfl) h2
  have hz3 : ∀ n ∈ DataW.weights Tryd.prog 70 d3, n ≤ reachBytes := fun n hn => by simpa using List.all_eq_true.1 hsz n (DataW.weights_mem_each (j := 3) (t := 70) (d := d3) rfl rfl n hn)
  have hlt3 : ∀ x ∈ p3, x.block < W.heap.size := fun x hx => hW'.lt x (by simp [hx])
  have h3k := h3
  obtain ⟨A3, c3, r, rfl, hI3, hl3⟩ := open_pairs (hval 3 70 v3 rfl rfl) h3 hz3
  obtain ⟨lo, hi, rfl, rfl, rfl, f_lo, f_hi⟩ := ends_opens (hval 4 71 v4 rfl rfl) h4
  clear hA0 hval0
  refine (hdr_loads_walk strip_does d A1 c1 b x A3 c3 r lo hi (i64_of_wf f_d) (i64_of_wf f_x) (i64_of_wf f_lo) (i64_of_wf f_hi) W hI1 hl1 hI3 hl3 (tens_of_laid hL)).mono fun e W' ⟨he, bel⟩ => ?_
  subst he
  exact ⟨_, rfl, _, _, _, [], _, [], hW', trodAll_mk1 (shut_bool Tryd.underlying4 _), (trodAll_cons_mk (shut_int Tryd.underlying3 f_d) (trodAll_cons_mk (Below.trod laidOut (by kernel_rfl) (of_decide_eq_true (by kernel_rfl)) h1k bel hlt1) (trodAll_cons_mk (shut_int Tryd.underlying2 f_x) (trodAll_cons_mk (Below.trod laidOut (by kernel_rfl) (of_decide_eq_true (by kernel_rfl)) h3k bel hlt3) (trodAll_cons_mk (ends_reads f_lo f_hi _ _) trodAll_mk0))))), rfl, bel.frame _, fun h => by cases h⟩

/-- Called with any number of digits, values, value, row and ends, the law HdrLoads returns true, and its arguments read as they did; the package variable spans.tens holds what its initialiser lays. (Here: wherever the listed variable reads as the program's text lays it.) -/
theorem hdrLoads_holds : Rows.HdrLoadsSaid :=
  OpenClaim.holds_of_wide 8 Tryd.f8 rfl rfl rfl rfl rfl rfl rfl ⟨rfl, rfl, rfl, rfl, rfl⟩ rfl rfl rfl rfl rfl (by kernel_rfl) Tryd.func8 (by kernel_rfl)
    (of_decide_eq_true (by kernel_rfl)) (by unfold Func.isWrapper; first | (rw [if_pos (by decide +kernel)]; kernel_rfl) | (rw [if_neg (by decide +kernel)]; exact ⟨rfl, rfl⟩))
    (fun os started H enc _ => hdrLoads_lifted os started H enc)

/-- The tied card: Called with any number of digits, values, value, row and ends, the law HdrLoads returns true, and its arguments read as they did; the package variable spans.tens holds what its initialiser lays. -/
theorem hdrLoads_card_holds : Rows.HdrLoadsCardSaid :=
  Claim7.holds_tied_plain_at .later [] [.data] true _ _ hdrLoads_holds (fun _ h => by cases h) (by kernel_rfl) (fun _ h => by cases h) hdrLoads_row_tie rfl ⟨rfl, rfl⟩ (by kernel_rfl) rfl
    (fun f fn hf hfn => by
      obtain rfl : f = 8 := Option.some.inj ((show Tryd.prog.funcNamed "ogive/ogivelaw15.HdrLoads" = some 8 by kernel_rfl).symm.trans hf) |>.symm
      obtain rfl : fn = Tryd.f8 := (Option.some.inj (Tryd.func8.symm.trans hfn)).symm
      exact ⟨by kernel_rfl, fun j t ht => by
        rw [Tryd.params8] at ht
        have hm : t ∈ [3, 22, 2, 70, 71] := by simpa using Array.mem_of_getElem? ht
        have hall : ([3, 22, 2, 70, 71].all fun u => !Tryd.prog.wantsStandIn u) = true := by kernel_rfl
        exact (show Tryd.prog.wantsStandIn t = false by simpa using List.all_eq_true.1 hall t hm)⟩)
    (by kernel_rfl)
#print axioms hdrLoads_card_holds
end Go.Proofs.YtojincgbnjkegaaDoor
