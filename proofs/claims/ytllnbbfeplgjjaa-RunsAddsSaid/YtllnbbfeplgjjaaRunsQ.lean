/-
  Walk: the landed code of runs: Put.
-/
import Derived.Test.YtllnbbfeplgjjaaPairC
import Derived.StillTailTactics
import Derived.Deep.RegionWith
import Derived.Deep.CutRange
import Derived.Deep.DeepCutAuto
namespace Go.Proofs.Ytllnbbfeplgjjaa
set_option linter.unusedVariables false
set_option linter.unusedSimpArgs false
open Go.RowKit

/-- A row of pairs stays as it is while a quill that is not its block writes. -/
theorem pairs_wrote {w w' : World} {B : Nat} {l : List UInt8} {A : Option Addr} {L : List PairV} (h : Pairs w A L) (hq : Quil w B l) (hc : L ≠ [] → ∀ b off, A = some ⟨b, off, none⟩ → b < B ∨ ∃ cs, w.heap[b]? = some (.cells cs 26 (0, 0))) (hw : Wrote B w w') : Pairs w' A L := by
  refine ⟨h.ok, fun i p hi => ?_⟩
  obtain ⟨b, off, hA, hlt, c0, c1⟩ := h.at_ i p hi
  have hne : L ≠ [] := by rintro rfl; simp at hi
  have hblk : w'.heap[b]? = w.heap[b]? := by
    rcases hc hne b off hA with h1 | ⟨cs, h1⟩
    · exact hw.below.block b h1
    · have hbB : b ≠ B := by
        rintro rfl
        obtain ⟨v, hv, _⟩ := hq
        rw [h1] at hv
        injection hv with hv
        injection hv with _ ht _
        revert ht; decide
      rw [h1]
      exact hw.rest b cs _ hbB (by decide) h1
  have hlt' : b < w'.heap.size := by
    rcases Nat.lt_or_ge b w'.heap.size with h2 | h2
    · exact h2
    · rw [Array.getElem?_eq_none h2, Array.getElem?_eq_getElem hlt] at hblk; cases hblk
  exact ⟨b, off, hA, hlt', (World.cell?_of_block (a := ⟨b, off + i * 2, none⟩) hblk).trans c0, (World.cell?_of_block (a := ⟨b, off + i * 2 + 1, none⟩) hblk).trans c1⟩

theorem gap_far {a b : Int} (ha : I64 a) (hb : I64 b) (h : a < b) : IntKind.u64.wrap (gap b a - 1) = (farP a b : Nat) := by
  rw [farP_of ha hb h, IntKind.wrap_u64]
  unfold I64 at ha hb
  unfold gap; split <;> omega

set_option maxRecDepth 100000 in
set_option maxHeartbeats 1000000 in
theorem put_does : PutDoes := by
  intro w B l m A cap L hq h hc hg hl hll hm
  have HI := Lib.hid (fun w' hw => pairs_wrote (w' := w') h hq hc hw)
  have HOK := Lib.hid h.ok
  have HG := Lib.hid hg
  have HM := Lib.hid hm
  have HLEN : Hid (∀ k, ((l ++ natB L.length) ++ bodyB (L.take k)).length ≤ 30000) := Lib.hid (fun k => by
    have h1 := natB_len10 (n := L.length) (by omega)
    have h2 := bodyB_len (L := L.take k) (fun p hp => h.ok p (List.mem_of_mem_take hp))
    rw [List.length_take] at h2
    rw [List.length_append, List.length_append]; omega)
  clear h hc hg hm
  have hB := hq.lt
  have hw1 : Word (L.length : Int) := ⟨by omega, by omega⟩
  have HQ := Lib.hid hq
  have HW1 := Lib.hid hw1
  clear hq hw1
  go_enter Try.func18, Try.ntmps18
  go_wp2_with fail
  refine (quil_nat _ B _ 1 l [(L.length : Int)] (fun y hy => by simp at hy; subst hy; exact HW1.out) (by simp) (by omega) (HQ.out.alloc _) (by simpa using heap_alloc_new _ _)).mono ?_
  rintro e w1 ⟨rfl, hq1, hwr1⟩
  have hwr2 := ((Wrote.refl B w).alloc hB _).trans hwr1
  rw [natsB_one, Int.toNat_natCast] at hq1
  clear hwr1
  go_wp2_with fail
  go_loopw [14] (fun i wr => ∃ k : Nat, k ≤ L.length ∧ i = .int .i64 k ∧ Quil wr B ((l ++ natB L.length) ++ bodyB (L.take k)) ∧ Wrote B w wr) (fun i _ => L.length - (intOf i).toNat)
  case atStart => exact ⟨0, Nat.zero_le _, rfl, by rw [List.take_zero, show bodyB [] = [] from rfl, List.append_nil]; exact hq1, hwr2⟩
  case round =>
    clear hq1 hwr2
    obtain ⟨k, hk, rfl, hq, hwr⟩ := hrel
    by_cases hlt : k < L.length
    · have kk : (k : Int) < L.length := by omega
      have hxk : L[k]? = some L[k] := List.getElem?_eq_getElem hlt
      generalize hit : L[k] = p at *
      have hst := body_step hxk
      have hln := HLEN.out k
      obtain ⟨px, pc⟩ := p
      obtain ⟨b0, off, rfl, hbl, c0, c1⟩ := (HI.out _ hwr).at_ k _ hxk
      obtain ⟨hpx, hpc⟩ := HOK.out _ (List.mem_of_getElem? hxk)
      simp only at c0 c1 hst hpx hpc
      have HST := Lib.hid hst
      have HPX := Lib.hid hpx
      have HPC := Lib.hid hpc
      generalize hcu : (l ++ natB L.length) ++ bodyB (L.take k) = cu at *
      have HCU := Lib.hid hcu
      have HXK := Lib.hid hxk
      have hBr := hq.lt
      clear hxk hit hst hpx hpc hcu
      by_cases h0 : k = 0
      · subst h0
        simp only [Nat.zero_mul, Nat.add_zero, Nat.zero_add] at c0 c1
        have HQ0 := Lib.hid hq
        have HWR := Lib.hid hwr
        clear hq hwr
        go_wp2_with fail
        refine (quil_int _ B _ 1 cu [px] (fun y hy => by simp at hy; subst hy; exact HPX.out) (by simp) (by omega) ((HQ0.out.alloc _).alloc _) (by simpa using heap_alloc_new (wr.alloc (.cells #[.int .i64 px, .int .u64 pc] 26)) _)).mono ?_
        rintro e w2 ⟨rfl, hq2, hwr2⟩
        have hbox : w2.heap[wr.heap.size]? = some (.cells #[.int .i64 px, .int .u64 pc] 26 (0, 0)) := hwr2.rest _ _ _ (by omega) (by decide) (by rw [heap_alloc_old _ _ (by simp)]; exact heap_alloc_new _ _)
        have g1 : w2.cell? ⟨wr.heap.size, 1, none⟩ = some (.int .u64 pc) := by simp [World.cell?, hbox]
        have hwr3 := ((HWR.out.alloc (hB := hBr) (.cells #[.int .i64 px, .int .u64 pc] 26)).alloc (hB := by simp; omega) (.cells #[.int .i64 px] 2)).trans hwr2
        have HQ2 := Lib.hid hq2
        have hB2 := hq2.lt
        have hl2 : (cu ++ natsB (List.map zig [px])).length ≤ 40000 := by
          have h1 := natsB_len (List.map zig [px]) (fun y hy => by simp at hy; subst hy; exact zig_word HPX.out)
          rw [List.length_append]; simp only [List.length_map, List.length_cons, List.length_nil] at h1; omega
        clear hq2 hwr2 hbox
        go_wp2_with fail
        refine (quil_nat _ B _ 1 _ [pc] (fun y hy => by simp at hy; subst hy; exact HPC.out) (by simp) (by omega) (HQ2.out.alloc _) (by simpa using heap_alloc_new _ _)).mono ?_
        rintro e w3 ⟨rfl, hq3, hwr4⟩
        have hwr5 := (hwr3.alloc hB2 (.cells #[.int .u64 pc] 24)).trans hwr4
        clear hwr3 hwr4
        go_wp2_with fail
        go_roundw
        case rel => exact ⟨0 + 1, by omega, by go_num, by rw [HST.out, if_pos trivial, ← List.append_assoc, HCU.out, ← List.append_assoc, ← natsB_one, ← natsB_one]; exact hq3, hwr5⟩
        case measure => simp [intOf]; omega
      · obtain ⟨u, hu⟩ : ∃ u, k = u + 1 := ⟨k - 1, by omega⟩
        have hxu : L[u]? = some L[u] := List.getElem?_eq_getElem (by omega)
        generalize hiu : L[u] = q at *
        obtain ⟨qx, qc⟩ := q
        obtain ⟨b1, off1, ea, hbl1, d0, d1⟩ := (HI.out _ hwr).at_ u _ hxu
        obtain ⟨rfl, rfl⟩ : b0 = b1 ∧ off = off1 := by
          have := Option.some.inj ea
          exact ⟨(Addr.mk.inj this).1, (Addr.mk.inj this).2.1⟩
        simp only at d0 d1
        have hqx := (HOK.out _ (List.mem_of_getElem? hxu)).1
        simp only at hqx
        have hgt : qx < px := by
          have h1 : GoodP (L.take (k + 1)) := good_take _ HG.out
          have h2 := (good_step HXK.out (good_take k HG.out)).1 h1
          exact h2.2 (by omega) (qx, qc) (by rw [hu, Nat.add_sub_cancel]; exact hxu)
        have hd : idxAt L (k - 1) = qx := by unfold idxAt; rw [hu, Nat.add_sub_cancel, hxu]; rfl
        have hfar := gap_far hqx HPX.out hgt
        obtain ⟨fr, hfr⟩ : ∃ fr : Int, ((farP qx px : Nat) : Int) = fr := ⟨_, rfl⟩
        have hfw : Word fr := by have := farP_lt qx px; unfold Word; omega
        have hfn : natB (farP qx px) = natB fr.toNat := by rw [← hfr, Int.toNat_natCast]
        rw [hfr] at hfar
        have u1 : IntKind.i64.wrap ((k : Int) - 1) = (u : Int) := by rw [IntKind.wrap_i64]; omega
        have u2 : (k : Int) - 1 = (u : Int) := by omega
        have u3 : (u : Int) < L.length := by omega
        have u4 : (0 : Int) ≤ (u : Int) := by omega
        have u5 : u < L.length := by omega
        have u6 : IntKind.i64.wrap (u : Int) = (u : Int) := by rw [IntKind.wrap_i64]; omega
        have k1 : ((k : Int) == 0) = false := by simp [h0]
        have HHD := Lib.hid hd
        have HFN := Lib.hid hfn
        have HFW := Lib.hid hfw
        have HQX := Lib.hid hqx
        have HQ0 := Lib.hid hq
        have HWR := Lib.hid hwr
        have H0 := Lib.hid h0
        clear ea hxu hiu h0 hu hd hfn hfr hfw hqx hgt hq hwr d1
        have e1 : (wr.alloc (.cells #[.int .i64 px, .int .u64 pc] 26)).cell? ⟨b0, off + u * 2, none⟩ = some (.int .i64 qx) := cell_later ((Below.refl _ _).alloc (Nat.le_refl _) _) d0
        have e2 : (wr.alloc (.cells #[.int .i64 px, .int .u64 pc] 26)).heap[wr.heap.size]? = some (.cells #[.int .i64 px, .int .u64 pc] 26 (0, 0)) := heap_alloc_new _ _
        have hQ1 := HQ0.out.alloc (.cells #[.int .i64 px, .int .u64 pc] 26)
        have hW1 := HWR.out.alloc hBr (.cells #[.int .i64 px, .int .u64 pc] 26)
        clear d0
        go_wp2_with fail
        have HQL : Hid (cu.length ≤ 100000) := Lib.hid (by omega)
        have HFX : Hid (∀ y ∈ [fr], Word y) := Lib.hid (fun y hy => by simp at hy; subst hy; exact HFW.out)
        obtain ⟨W2, hW2e⟩ : ∃ W2, ((wr.alloc (.cells #[.int .i64 px, .int .u64 pc] 26)).alloc (.cells #[.int .u64 fr] 24)).drew = W2 := ⟨_, rfl⟩
        have hQ2 : Quil W2 B cu := by rw [← hW2e]; exact hQ1.alloc (.cells #[.int .u64 fr] 24)
        have hH2 : W2.heap[wr.heap.size + 1]? = some (.cells #[.int .u64 fr] 24 (0, 0)) := by
          have h1 : ((wr.alloc (.cells #[.int .i64 px, .int .u64 pc] 26)).alloc (.cells #[.int .u64 fr] 24)).heap[wr.heap.size + 1]? = some (.cells #[.int .u64 fr] 24 (0, 0)) := by simpa using heap_alloc_new (wr.alloc (.cells #[.int .i64 px, .int .u64 pc] 26)) (.cells #[.int .u64 fr] 24)
          rw [← hW2e]; exact h1
        have hW2 : Wrote B w W2 := by
          have h1 := hW1.alloc (by simp; omega) (.cells #[.int .u64 fr] 24)
          rw [← hW2e]; exact ⟨h1.below.drew, h1.rest⟩
        have hE2 : W2.heap[wr.heap.size]? = some (.cells #[.int .i64 px, .int .u64 pc] 26 (0, 0)) := by rw [← hW2e]; exact (heap_alloc_old _ _ (by simp)).trans e2
        have HC : Hid (Calls Try.prog 35 #[.pointer (some ⟨B, 0, none⟩), .slice (some ⟨wr.heap.size + 1, 0, none⟩) 1 1] W2 fun e w' => e = .returned (.tuple #[]) ∧ Quil w' B (cu ++ natsB [fr]) ∧ Wrote B W2 w') := Lib.hid (quil_nat W2 B _ 1 cu [fr] HFX.out (by simp) HQL.out hQ2 hH2)
        have HW2 := Lib.hid hW2
        have HE2 := Lib.hid hE2
        subst hW2e
        clear hQ2 hH2 hW2 hE2 hQ1 hW1 e2
        go_region_with (first
          | (go_at_call 37; refine (gap_any _ _ HPX.out HQX.out _).mono ?_; rintro e w' ⟨rfl, rfl⟩)
          | (go_at_call 35; refine HC.out.mono ?_; rintro e w2 ⟨rfl, hq2, hwr2⟩))
        all_goals
          have hbox : w2.heap[wr.heap.size]? = some (.cells #[.int .i64 px, .int .u64 pc] 26 (0, 0)) := hwr2.rest _ _ _ (by omega) (by decide) HE2.out
          have g1 : w2.cell? ⟨wr.heap.size, 1, none⟩ = some (.int .u64 pc) := by simp [World.cell?, hbox]
          have hwr3 := HW2.out.trans hwr2
          have HQ3 := Lib.hid hq2
          have hB2 := hq2.lt
          have hl2 : (cu ++ natsB [fr]).length ≤ 40000 := by
            have h1 := natsB_len [fr] HFX.out
            rw [List.length_append]; simp only [List.length_cons, List.length_nil] at h1; omega
          have HWR3 := Lib.hid hwr3
          clear hq2 hwr2 hbox HC HW2 HE2 hwr3 hfar u1 u2 u6 k1 e1
          go_wp2_with fail
          refine (quil_nat _ B _ 1 _ [pc] (fun y hy => by simp at hy; subst hy; exact HPC.out) (by simp) (by omega) (HQ3.out.alloc _) (by simpa using heap_alloc_new _ _)).mono ?_
          rintro e w3 ⟨rfl, hq3, hwr4⟩
          have hwr5 := (HWR3.out.alloc hB2 (.cells #[.int .u64 pc] 24)).trans hwr4
          clear hwr4
          go_wp2_with fail
          go_roundw
          case rel => exact ⟨k + 1, by omega, by go_num, by rw [HST.out, if_neg H0.out, HHD.out, HFN.out, ← List.append_assoc, HCU.out, ← List.append_assoc, ← natsB_one, ← natsB_one]; exact hq3, hwr5⟩
          case measure => simp [intOf]; omega
    · obtain rfl : k = L.length := by omega
      rw [List.take_length] at hq
      have kk : ¬ (L.length : Int) < L.length := by omega
      go_wp2_with fail
      go_end0
      exact ⟨rfl, by rw [← HM.out]; unfold rowB; rw [← List.append_assoc]; exact hq, hwr⟩
end Go.Proofs.Ytllnbbfeplgjjaa
