/-
  Called with any case (a closeness or a number of digits, a side, a number of parts, values), any more values and any other number of parts, the law BinsMerges returns true, and its arguments read as they did; the package variable spans.tens holds what its initialiser lays.
-/
import Derived.Test.YtdnmeninglfhlaaGreatDoorK6
import Derived.Test.YtdnmeninglfhlaaGreatDoorQBinP
import Derived.Test.YtdnmeninglfhlaaGreatDoorTie
import Derived.Test.YtdnmeninglfhlaaGreatDoorCards
import Derived.LaidMore
import Derived.Lay
import Derived.SevenTiedAt
namespace Go.Proofs.YtdnmeninglfhlaaGreatDoor
set_option linter.unusedVariables false
open Go.ChangeShapes Go.WideShapes Go.ChangeAt Go.RowKit Go.Joins

set_option maxRecDepth 100000 in
theorem binsMerges_lifted (os : Os) (started : os.Started) (H : Type) (enc : TypeId × Value → H) :
    ReturnsInHanded {} Tryz.checked os 6 .any (fun w args => (Rows.binsMergesSpec.pre enc Tryz.prog Tryz.f6 Rows.binsMergesRow.domain false w args ∧ laidMetH Tryz.prog Rows.binsMergesRow.laid w) ∧ sizedMet enc Tryz.prog Tryz.f6 (OpenSpec.ofChange Rows.binsMergesSpec) false w args)
      (Rows.binsMergesSpec.post enc Tryz.prog Tryz.f6 false true false false) := by
  refine returnsInHanded_of_change_and (C := Tryz.checked) (X := fun w _ => laidMetH Tryz.prog Rows.binsMergesRow.laid w) (fun _ _ _ hh h => h.of_heap hh) own started (by kernel_rfl) Tryz.func6
    (ChangeSpec.witness_shaped (enc := enc) (C := Tryz.checked) (os := os) (X := fun w _ => laidMetH Tryz.prog Rows.binsMergesRow.laid w) false (World.laidAll Tryz.prog os Rows.binsMergesRow.laid) #[.agg #[.int .u64 0, .int .u64 0, .int .i64 0, .int .i64 0, .int .i64 0, .slice none 0 0], .slice none 0 0, .int .i64 0] 8 (World.laidAll_os _ _ _)
      (World.shaped_of_ZipB (by kernel_rfl) (by kernel_rfl)) (by kernel_rfl) (by kernel_rfl) (by kernel_rfl)
      (by rw [MakeChecks.laidMetH_plain _ _ _ (by kernel_rfl)]; exact laidMet_laidAll _ (by kernel_rfl) (by kernel_rfl))) ?_
  intro W base args ds gs before hval0 hW hcnd hsz0 hL _
  have hsz : (DataW.weightsEach Tryz.prog (Tryz.f6.params.toList ++ Rows.binsMergesSpec.plain.varTypes Tryz.prog) (ds ++ gs)).all (· ≤ reachBytes) = true := hsz0
  clear hsz0
  have hval : ∀ (j : Nat) t v, Tryz.f6.params[j]? = some t → args[j]? = some v → Value.okWide Tryz.prog W .any base t v := hval0
  have hW' := hW
  obtain ⟨p, q, hA0, hV, rfl, hfz, hnd⟩ := hW
  have hA : DataW.TrodAll enc Tryz.prog W 0 (fun _ => true) true Tryz.f6.params.toList args.toList ds p := hA0
  rw [Tryz.params6] at hA hval hsz
  obtain ⟨v0, vs0, d0, ds0, p0, q0, hargs, rfl, rfl, h0, r0⟩ := trodAll_cons hA
  obtain ⟨v1, vs1, d1, ds1, p1, q1, rfl, rfl, rfl, h1, r1⟩ := trodAll_cons r0
  obtain ⟨v2, vs2, d2, ds2, p2, q2, rfl, rfl, rfl, h2, r2⟩ := trodAll_cons r1
  obtain ⟨rfl, rfl, rfl⟩ := trodAll_nil r2
  obtain rfl : args = #[v0, v1, v2] := by cases args; simp_all
  obtain ⟨rfl, rfl⟩ := trodVars_none hV
  simp only [List.append_nil] at hW'
  have hz0 : ∀ n ∈ DataW.weights Tryz.prog 27 d0, n ≤ reachBytes := fun n hn => by simpa using List.all_eq_true.1 hsz n (DataW.weights_mem_each (j := 0) (t := 27) (d := d0) rfl rfl n hn)
  have hlt0 : ∀ x ∈ p0, x.block < W.heap.size := fun x hx => hW'.lt x (by simp [hx])
  have h0k := h0
  obtain ⟨u, v, dg, sd, m, A0, c0, L0, rfl, w1_0, w2_0, w3_0, w4_0, w5_0, hI0, hl0⟩ := open_case (hval 0 27 v0 rfl rfl) h0 hz0
  have hz1 : ∀ n ∈ DataW.weights Tryz.prog 25 d1, n ≤ reachBytes := fun n hn => by simpa using List.all_eq_true.1 hsz n (DataW.weights_mem_each (j := 1) (t := 25) (d := d1) rfl rfl n hn)
  have hlt1 : ∀ x ∈ p1, x.block < W.heap.size := fun x hx => hW'.lt x (by simp [hx])
  have h1k := h1
  obtain ⟨A1, c1, b, rfl, hI1, hl1⟩ := open_vals (hval 1 25 v1 rfl rfl) h1 hz1
  obtain ⟨o, rfl, rfl, rfl, f_o⟩ := open_int Tryz.underlying3 (hval 2 3 v2 rfl rfl) h2
  clear hA0 hval0
  refine (bins_merges_walk bins_does W u v dg sd m L0 A0 c0 A1 c1 b o w1_0 w2_0 w3_0 w4_0 w5_0 hl0 hI1 hl1 (i64_of_wf f_o) hI0 (tens_of_laid hL)).mono fun e W' ⟨he, bel⟩ => ?_
  subst he
  exact ⟨_, rfl, _, _, _, [], _, [], hW', trodAll_mk1 (shut_bool Tryz.underlying4 _), (trodAll_cons_mk (Below.trod laidOut (by kernel_rfl) (of_decide_eq_true (by kernel_rfl)) h0k bel hlt0) (trodAll_cons_mk (Below.trod laidOut (by kernel_rfl) (of_decide_eq_true (by kernel_rfl)) h1k bel hlt1) (trodAll_cons_mk (shut_int Tryz.underlying3 f_o) trodAll_mk0))), rfl, bel.frame _, fun h => by cases h⟩

/-- Called with any case (a closeness or a number of digits, a side, a number of parts, values), any more values and any other number of parts, the law BinsMerges returns true, and its arguments read as they did; the package variable spans.tens holds what its initialiser lays. (Here: wherever the listed variable reads as the program's text lays it.) -/
theorem binsMerges_holds : Rows.BinsMergesSaid :=
  OpenClaim.holds_of_wide 6 Tryz.f6 rfl rfl rfl rfl rfl rfl rfl ⟨rfl, rfl, rfl, rfl, rfl⟩ rfl rfl rfl rfl rfl (by kernel_rfl) Tryz.func6 (by kernel_rfl)
    (of_decide_eq_true (by kernel_rfl)) (by unfold Func.isWrapper; first | (rw [if_pos (by decide +kernel)]; kernel_rfl) | (rw [if_neg (by decide +kernel)]; exact ⟨rfl, rfl⟩))
    (fun os started H enc _ => binsMerges_lifted os started H enc)

/-- The tied card: Called with any case (a closeness or a number of digits, a side, a number of parts, values), any more values and any other number of parts, the law BinsMerges returns true, and its arguments read as they did; the package variable spans.tens holds what its initialiser lays. -/
theorem binsMerges_card_holds : Rows.BinsMergesCardSaid :=
  Claim7.holds_tied_plain_at .later [] [.data] true _ _ binsMerges_holds (fun _ h => by cases h) (by kernel_rfl) (fun _ h => by cases h) binsMerges_row_tie rfl ⟨rfl, rfl⟩ (by kernel_rfl) rfl
    (fun f fn hf hfn => by
      obtain rfl : f = 6 := Option.some.inj ((show Tryz.prog.funcNamed "ogive/ogivelaw13.BinsMerges" = some 6 by kernel_rfl).symm.trans hf) |>.symm
      obtain rfl : fn = Tryz.f6 := (Option.some.inj (Tryz.func6.symm.trans hfn)).symm
      exact ⟨by kernel_rfl, fun j t ht => by
        rw [Tryz.params6] at ht
        have hm : t ∈ [27, 25, 3] := by simpa using Array.mem_of_getElem? ht
        have hall : ([27, 25, 3].all fun u => !Tryz.prog.wantsStandIn u) = true := by kernel_rfl
        exact (show Tryz.prog.wantsStandIn t = false by simpa using List.all_eq_true.1 hall t hm)⟩)
    (by kernel_rfl)
#print axioms binsMerges_card_holds
end Go.Proofs.YtdnmeninglfhlaaGreatDoor
