/-
  Called with any case (a closeness, a side, a number of parts, values), any place and any part, where what it reads is of bulk at most 1,048,576, the law LogskOrder returns true, and its arguments read as they did.
-/
import Derived.Test.YtcijflakldggaaaGreatK7
import Derived.Test.YtcijflakldggaaaGreatQSkJ
import Derived.Deep.CondSized
namespace Go.Proofs.YtcijflakldggaaaGreat
set_option linter.unusedVariables false
open Go.ChangeShapes Go.WideShapes Go.ChangeAt Go.RowKit Go.Joins


/-- So many values at the most, each counted once. -/
theorem bulk_len {H : Type} (l : List (DataW H)) : l.length ≤ Rows.uptoBulkAll l := by
  induction l with
  | nil => exact Nat.zero_le _
  | cons x r ih =>
    have h1 : 1 ≤ Rows.uptoBulk x := by cases x with
      | lit l => cases l <;> simp [Rows.uptoBulk]
      | _ => simp [Rows.uptoBulk]
    simp only [Rows.uptoBulkAll, List.length_cons]; omega
theorem bulk_part {H : Type} {d : DataW H} {l : List (DataW H)} (h : d ∈ l) : Rows.uptoBulk d ≤ Rows.uptoBulkAll l := by
  induction l with
  | nil => cases h
  | cons x r ih =>
    simp only [Rows.uptoBulkAll]
    rcases List.mem_cons.1 h with e | e
    · subst e; omega
    · have := ih e; omega
/-- A row of values: its reading counts each. -/
theorem bulk_row {H : Type} {enc : TypeId × Value → H} {W : World} {n len cap : Nat} {A : Option Addr} {d : DataW H} {pl : List MemPlace}
    (hf : DataW.trod enc Tryz.prog W 0 (fun _ => true) true n 25 [.slice A len cap] = some (d, pl)) : len ≤ Rows.uptoBulk d := by
  rcases Go.Deep.open_slice Tryz.underlying25 hf with ⟨hcs, hx⟩ | ⟨a, len', cap', m, n, D, Pl, hcs, _, hl, hm, hmm, hx, hi⟩
  · simp only [List.cons.injEq, and_true, Value.slice.injEq] at hcs
    omega
  · simp only [List.cons.injEq, and_true, Value.slice.injEq] at hcs
    obtain ⟨_, e, _⟩ := hcs
    simp only [Prod.mk.injEq] at hx
    rw [hx.1]
    have h1 := bulk_len ((List.range len').map D)
    simp only [List.length_map, List.length_range] at h1
    simp only [Rows.uptoBulk]
    omega
set_option maxRecDepth 100000 in
/-- A case: no more values than its reading counts. -/
theorem bulk_case {H : Type} {enc : TypeId × Value → H} {W : World} {x0 x1 x2 x3 : Value} {A : Option Addr} {len cap : Nat} {d : DataW H} {p : List MemPlace}
    (h : DataW.Trod enc Tryz.prog W 0 (fun _ => true) true 27 (.agg #[x0, x1, x2, x3, .slice A len cap]) d p) : len ≤ Rows.uptoBulk d := by
  obtain ⟨fuel, hf⟩ := h
  obtain ⟨ys, m, _, hx, hlen, hyl, hfi⟩ := DataW.trod_struct Tryz.underlying27 hf
  have h3 := hfi 3 _ rfl
  match ys, hyl with
  | [y0, y1, y2, y3], _ =>
    have h4 : DataW.trod enc Tryz.prog W 0 (fun _ => true) true m 25 [.slice A len cap] = some (y3.1, y3.2) := h3
    have h5 := bulk_row h4
    simp only [Prod.mk.injEq] at hx
    rw [hx.1]
    have h6 : Rows.uptoBulk y3.1 ≤ Rows.uptoBulkAll ([y0, y1, y2, y3].map (·.1)) := bulk_part (List.mem_map.2 ⟨y3, List.mem_cons_of_mem _ (List.mem_cons_of_mem _ (List.mem_cons_of_mem _ List.mem_cons_self)), rfl⟩)
    simp only [Rows.uptoBulk]
    omega

set_option maxRecDepth 100000 in
theorem logskOrder_contract (H : Type) (enc : TypeId × Value → H) (W : World) (base : Nat) (args : Array Value) (ds gs : List (DataW H)) (before : List MemPlace)
    (hval0 : ∀ (j : Nat) t v, Tryz.f9.params[j]? = some t → args[j]? = some v → Value.okWide Tryz.prog W .any base t v)
    (hW : DataW.Whole enc Tryz.prog Tryz.f9.params.toList Rows.logskOrderSpec.vars false W args.toList ds gs before) (hk : Rows.uptoSmall H (ds ++ gs) = true)
    (hsz : (DataW.weightsEach Tryz.prog (Tryz.f9.params.toList ++ Rows.logskOrderSpec.plain.varTypes Tryz.prog) (ds ++ gs)).all (· ≤ reachBytes) = true) :
    Calls Tryz.prog 9 args W fun e W' => ∃ v, e = .returned v ∧ Rows.logskOrderSpec.post enc Tryz.prog Tryz.f9 false true false false W args v W' := by
  have hval : ∀ (j : Nat) t v, Tryz.f9.params[j]? = some t → args[j]? = some v → Value.okWide Tryz.prog W .any base t v := hval0
  have hW' := hW
  obtain ⟨p, q, hA0, hV, rfl, hfz, hnd⟩ := hW
  have hA : DataW.TrodAll enc Tryz.prog W 0 (fun _ => true) true Tryz.f9.params.toList args.toList ds p := hA0
  rw [Tryz.params9] at hA hval hsz
  obtain ⟨v0, vs0, d0, ds0, p0, q0, hargs, rfl, rfl, h0, r0⟩ := trodAll_cons hA
  obtain ⟨v1, vs1, d1, ds1, p1, q1, rfl, rfl, rfl, h1, r1⟩ := trodAll_cons r0
  obtain ⟨v2, vs2, d2, ds2, p2, q2, rfl, rfl, rfl, h2, r2⟩ := trodAll_cons r1
  obtain ⟨rfl, rfl, rfl⟩ := trodAll_nil r2
  obtain rfl : args = #[v0, v1, v2] := by cases args; simp_all
  obtain ⟨rfl, rfl⟩ := trodVars_none hV
  simp only [List.append_nil] at hW' hk
  have hz0 : ∀ n ∈ DataW.weights Tryz.prog 27 d0, n ≤ reachBytes := fun n hn => by simpa using List.all_eq_true.1 hsz n (DataW.weights_mem_each (j := 0) (t := 27) (d := d0) rfl rfl n hn)
  have hlt0 : ∀ x ∈ p0, x.block < W.heap.size := fun x hx => hW'.lt x (by simp [hx])
  have h0k := h0
  obtain ⟨u, v, sd, m, A0, c0, L0, rfl, w1_0, w2_0, w3_0, w4_0, hI0, hl0⟩ := open_case14 (hval 0 27 v0 rfl rfl) h0 hz0
  obtain ⟨t, rfl, rfl, rfl, f_t⟩ := open_int Tryz.underlying3 (hval 1 3 v1 rfl rfl) h1
  obtain ⟨pa, pb, rfl, rfl, rfl, f_pa, f_pb⟩ := ratio_opens (hval 2 24 v2 rfl rfl) h2
  have hkb := hk
  unfold Rows.uptoSmall at hkb
  have hkb := of_decide_eq_true hkb
  simp only [Rows.uptoBulkAll] at hkb
  have hup : List.length L0 ≤ 1048576 := by have := bulk_case h0; omega
  clear hA0 hval0
  refine (logsk_order_walk bins_does u v sd m L0 A0 c0 t pa pb w1_0 w2_0 w3_0 w4_0 hl0 (i64_of_wf f_t) (word_of_wf f_pa) (word_of_wf f_pb) hup W hI0).mono fun e W' ⟨he, bel⟩ => ?_
  subst he
  exact ⟨_, rfl, _, _, _, [], _, [], hW', trodAll_mk1 (shut_bool Tryz.underlying4 _), (trodAll_cons_mk (Below.trod laidOut (by kernel_rfl) (of_decide_eq_true (by kernel_rfl)) h0k bel hlt0) (trodAll_cons_mk (shut_int Tryz.underlying3 f_t) (trodAll_cons_mk (ratio_reads f_pa f_pb _ _) trodAll_mk0))), rfl, bel.frame _, fun h => by cases h⟩

set_option maxRecDepth 100000 in
theorem logskOrder_lifted (os : Os) (started : os.Started) (H : Type) (enc : TypeId × Value → H) (F : Stop.Interp) :
    ReturnsInHanded {} Tryz.checked os 9 .any ((Rows.OpenSpec.upto Rows.logskOrderSpec).pre6 enc Tryz.prog Tryz.f9 Rows.logskOrderUptoRow.domain false) (((Rows.OpenSpec.upto Rows.logskOrderSpec).at F).post enc Tryz.prog Tryz.f9 false true false false) := by
  refine returnsInHanded_of_cond_sized (C := Tryz.checked) (s := Rows.OpenSpec.upto Rows.logskOrderSpec) (k := Rows.uptoSmall) rfl own started (by kernel_rfl) Tryz.func9
    (OpenSpec.witness (enc := enc) (C := Tryz.checked) (s := Rows.OpenSpec.upto Rows.logskOrderSpec) (k := Rows.uptoSmall) rfl false ⟨#[], #[.agg #[.int .u64 0, .int .u64 0, .int .i64 0, .int .i64 0, .slice none 0 0], .int .i64 0, .agg #[.int .u64 0, .int .u64 0]], []⟩ 8 (by kernel_rfl) (by kernel_rfl) (by kernel_rfl)
      (x := ([.agg [.agg [.lit (.int .u64 0), .lit (.int .u64 0)], .lit (.int .i64 0), .lit (.int .i64 0), .nil], .lit (.int .i64 0), .agg [.lit (.int .u64 0), .lit (.int .u64 0)]], [], [])) (by kernel_rfl) rfl (by kernel_rfl)) ?_
  intro W base args ds gs before hval hW _ hk hsz _
  exact logskOrder_contract H enc W base args ds gs before hval hW hk hsz

/-- Called with any case (a closeness, a side, a number of parts, values), any place and any part, where what it reads is of bulk at most 1,048,576, the law LogskOrder returns true, and its arguments read as they did. -/
theorem logskOrder_holds : Rows.LogskOrderUptoSaid :=
  OpenClaim.holds_of_cond 9 Tryz.f9 rfl rfl rfl rfl rfl rfl rfl ⟨rfl, rfl, rfl, rfl, rfl⟩ rfl rfl rfl rfl rfl (by kernel_rfl) Tryz.func9 (by kernel_rfl)
    (of_decide_eq_true (by kernel_rfl)) (by unfold Func.isWrapper; first | (rw [if_pos (by decide +kernel)]; kernel_rfl) | (rw [if_neg (by decide +kernel)]; exact ⟨rfl, rfl⟩))
    (fun os started H enc _ F => logskOrder_lifted os started H enc F)
#print axioms logskOrder_holds
end Go.Proofs.YtcijflakldggaaaGreat
