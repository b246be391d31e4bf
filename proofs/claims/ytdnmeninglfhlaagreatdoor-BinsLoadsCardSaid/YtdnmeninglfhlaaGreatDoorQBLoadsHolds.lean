/-
  Called with any case (a closeness or a number of digits, a side, a number of parts, values), any value, any row, any number of lost ones and of noughts, the law BinsLoads returns true, and its arguments read as they did; the package variable spans.tens holds what its initialiser lays.
-/
import Derived.Test.YtdnmeninglfhlaaGreatDoorK6
import Derived.Test.YtdnmeninglfhlaaGreatDoorQBinO
import Derived.Test.YtdnmeninglfhlaaGreatDoorTie
import Derived.Test.YtdnmeninglfhlaaGreatDoorCards
import Derived.LaidMore
import Derived.Lay
import Derived.SevenTiedAt
namespace Go.Proofs.YtdnmeninglfhlaaGreatDoor
set_option linter.unusedVariables false
open Go.ChangeShapes Go.WideShapes Go.ChangeAt Go.RowKit Go.Joins

set_option maxRecDepth 100000 in
theorem binsLoads_lifted (os : Os) (started : os.Started) (H : Type) (enc : TypeId × Value → H) :
    ReturnsInHanded {} Tryz.checked os 7 .any (fun w args => (Rows.binsLoadsSpec.pre enc Tryz.prog Tryz.f7 Rows.binsLoadsRow.domain false w args ∧ laidMetH Tryz.prog Rows.binsLoadsRow.laid w) ∧ sizedMet enc Tryz.prog Tryz.f7 (OpenSpec.ofChange Rows.binsLoadsSpec) false w args)
      (Rows.binsLoadsSpec.post enc Tryz.prog Tryz.f7 false true false false) := by
  refine returnsInHanded_of_change_and (C := Tryz.checked) (X := fun w _ => laidMetH Tryz.prog Rows.binsLoadsRow.laid w) (fun _ _ _ hh h => h.of_heap hh) own started (by kernel_rfl) Tryz.func7
    (ChangeSpec.witness_shaped (enc := enc) (C := Tryz.checked) (os := os) (X := fun w _ => laidMetH Tryz.prog Rows.binsLoadsRow.laid w) false (World.laidAll Tryz.prog os Rows.binsLoadsRow.laid) #[.agg #[.int .u64 0, .int .u64 0, .int .i64 0, .int .i64 0, .int .i64 0, .slice none 0 0], .int .i64 0, .slice none 0 0, .int .u64 0, .int .u64 0] 8 (World.laidAll_os _ _ _)
      (World.shaped_of_ZipB (by kernel_rfl) (by kernel_rfl)) (by kernel_rfl) (by kernel_rfl) (by kernel_rfl)
      (by rw [MakeChecks.laidMetH_plain _ _ _ (by kernel_rfl)]; exact laidMet_laidAll _ (by kernel_rfl) (by kernel_rfl))) ?_
  intro W base args ds gs before hval0 hW hcnd hsz0 hL _
  have hsz : (DataW.weightsEach Tryz.prog (Tryz.f7.params.toList ++ Rows.binsLoadsSpec.plain.varTypes Tryz.prog) (ds ++ gs)).all (· ≤ reachBytes) = true := hsz0
  clear hsz0
  have hval : ∀ (j : Nat) t v, Tryz.f7.params[j]? = some t → args[j]? = some v → Value.okWide Tryz.prog W .any base t v := hval0
  have hW' := hW
  obtain ⟨p, q, hA0, hV, rfl, hfz, hnd⟩ := hW
  have hA : DataW.TrodAll enc Tryz.prog W 0 (fun _ => true) true Tryz.f7.params.toList args.toList ds p := hA0
  rw [Tryz.params7] at hA hval hsz
  obtain ⟨v0, vs0, d0, ds0, p0, q0, hargs, rfl, rfl, h0, r0⟩ := trodAll_cons hA
  obtain ⟨v1, vs1, d1, ds1, p1, q1, rfl, rfl, rfl, h1, r1⟩ := trodAll_cons r0
  obtain ⟨v2, vs2, d2, ds2, p2, q2, rfl, rfl, rfl, h2, r2⟩ := trodAll_cons r1
  obtain ⟨v3, vs3, d3, ds3, p3, q3, rfl, rfl, rfl, h3, r3⟩ := trodAll_cons r2
  obtain ⟨v4, vs4, d4, ds4, p4, q4, rfl, rfl, rfl, h4, r4⟩ := trodAll_cons r3
  obtain ⟨rfl, rfl, rfl⟩ := trodAll_nil r4
  obtain rfl : args = #[v0, v1, v2, v3, v4] := by cases args; simp_all
  obtain ⟨rfl, rfl⟩ := trodVars_none hV
  simp only [List.append_nil] at hW'
  have hz0 : ∀ n ∈ DataW.weights Tryz.prog 27 d0, n ≤ reachBytes := fun n hn => by simpa using List.all_eq_true.1 hsz n (DataW.weights_mem_each (j := 0) (t := 27) (d := d0) rfl rfl n hn)
  have hlt0 : ∀ x ∈ p0, x.block < W.heap.size := fun x hx => hW'.lt x (by simp [hx])
  have h0k := h0
  obtain ⟨u, v, dg, sd, m, A0, c0, L0, rfl, w1_0, w2_0, w3_0, w4_0, w5_0, hI0, hl0⟩ := open_case (hval 0 27 v0 rfl rfl) h0 hz0
  obtain ⟨x, rfl, rfl, rfl, f_x⟩ := open_int Tryz.underlying2 (hval 1 2 v1 rfl rfl) h1
  have hz2 : ∀ n ∈ DataW.weights Tryz.prog 45 d2, n ≤ reachBytes := fun n hn => by simpa using List.all_eq_true.1 hsz n (DataW.weights_mem_each (j := 2) (t := 45) (d := d2) rfl rfl n hn)
  have hlt2 : ∀ x ∈ p2, x.block < W.heap.size := fun x hx => hW'.lt x (by simp [hx])
  have h2k := h2
  obtain ⟨A2, c2, b, rfl, hI2, hl2⟩ := open_pairs (hval 2 45 v2 rfl rfl) h2 hz2
  obtain ⟨l, rfl, rfl, rfl, f_l⟩ := open_int Tryz.underlying22 (hval 3 22 v3 rfl rfl) h3
  obtain ⟨z, rfl, rfl, rfl, f_z⟩ := open_int Tryz.underlying22 (hval 4 22 v4 rfl rfl) h4
  clear hA0 hval0
  refine (bins_loads_walk bins_does W u v dg sd m L0 A0 c0 x A2 c2 b l z w1_0 w2_0 w3_0 w4_0 w5_0 hl0 (i64_of_wf f_x) hI2 hl2 (word_of_wf f_l) (word_of_wf f_z) hI0 (tens_of_laid hL)).mono fun e W' ⟨he, bel⟩ => ?_
  subst he
  exact ⟨_, rfl, _, _, _, [], _, [], hW', trodAll_mk1 (shut_bool Tryz.underlying4 _), (trodAll_cons_mk (Below.trod laidOut (by kernel_rfl) (of_decide_eq_true (by kernel_rfl)) h0k bel hlt0) (trodAll_cons_mk (shut_int Tryz.underlying2 f_x) (trodAll_cons_mk (Below.trod laidOut (by kernel_rfl) (of_decide_eq_true (by kernel_rfl)) h2k bel hlt2) (trodAll_cons_mk (shut_int Tryz.underlying22 f_l) (trodAll_cons_mk (shut_int Tryz.underlying22 f_z) trodAll_mk0))))), rfl, bel.frame _, fun h => by cases h⟩

/-- Called with any case (a closeness or a number of digits, a side, a number of parts, values), any value, any row, any number of lost ones and of noughts, the law BinsLoads returns true, and its arguments read as they did; the package variable spans.tens holds what its initialiser lays. (Here: wherever the listed variable reads as the program's text lays it.) -/
theorem binsLoads_holds : Rows.BinsLoadsSaid :=
  OpenClaim.holds_of_wide 7 Tryz.f7 rfl rfl rfl rfl rfl rfl rfl ⟨rfl, rfl, rfl, rfl, rfl⟩ rfl rfl rfl rfl rfl (by kernel_rfl) Tryz.func7 (by kernel_rfl)
    (of_decide_eq_true (by kernel_rfl)) (by unfold Func.isWrapper; first | (rw [if_pos (by decide +kernel)]; kernel_rfl) | (rw [if_neg (by decide +kernel)]; exact ⟨rfl, rfl⟩))
    (fun os started H enc _ => binsLoads_lifted os started H enc)

/-- The tied card: Called with any case (a closeness or a number of digits, a side, a number of parts, values), any value, any row, any number of lost ones and of noughts, the law BinsLoads returns true, and its arguments read as they did; the package variable spans.tens holds what its initialiser lays. -/
theorem binsLoads_card_holds : Rows.BinsLoadsCardSaid :=
  Claim7.holds_tied_plain_at .later [] [.data] true _ _ binsLoads_holds (fun _ h => by cases h) (by kernel_rfl) (fun _ h => by cases h) binsLoads_row_tie rfl ⟨rfl, rfl⟩ (by kernel_rfl) rfl
    (fun f fn hf hfn => by
      obtain rfl : f = 7 := Option.some.inj ((show Tryz.prog.funcNamed "ogive/ogivelaw13.BinsLoads" = some 7 by kernel_rfl).symm.trans hf) |>.symm
      obtain rfl : fn = Tryz.f7 := (Option.some.inj (Tryz.func7.symm.trans hfn)).symm
      exact ⟨by kernel_rfl, fun j t ht => by
        rw [Tryz.params7] at ht
        have hm : t ∈ [27, 2, 45, 22, 22] := by simpa using Array.mem_of_getElem? ht
        have hall : ([27, 2, 45, 22, 22].all fun u => !Tryz.prog.wantsStandIn u) = true := by kernel_rfl
        exact (show Tryz.prog.wantsStandIn t = false by simpa using List.all_eq_true.1 hall t hm)⟩)
    (by kernel_rfl)
#print axioms binsLoads_card_holds
end Go.Proofs.YtdnmeninglfhlaaGreatDoor
