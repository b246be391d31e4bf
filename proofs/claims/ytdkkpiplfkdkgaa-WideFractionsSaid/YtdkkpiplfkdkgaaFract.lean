/-
  The walk of WideFractions.
-/
import Derived.Test.YtdkkpiplfkdkgaaSmall
import Derived.Test.YtdkkpiplfkdkgaaOpen
namespace Go.Proofs.Ytdkkpiplfkdkgaa
set_option linter.unusedVariables false
set_option linter.unusedSimpArgs false
open Go.RowKit Go.Shelf

set_option maxHeartbeats 2000000 in
theorem fract_walk (an ad bn bd cn cd : Int) (w1 : Word an) (w2 : Word ad) (w3 : Word bn) (w4 : Word bd) (w5 : Word cn) (w6 : Word cd) (w : World) :
    Calls Try.prog 6 #[.agg #[.int .u64 an, .int .u64 ad], .agg #[.int .u64 bn, .int .u64 bd], .agg #[.int .u64 cn, .int .u64 cd]] w fun e w' =>
      e = .returned (.bool true) ∧ Below w.heap.size w w' := by
  have hs := few_self an ad
  cases hp : fewB an ad bn bd with
  | false =>
    go_enter Try.func6, Try.ntmps6
    go_wp2_with fail
    refine (alive_any _).mono ?_
    rintro e wr0 ⟨rfl, hb0⟩
    have a0_0 : wr0.cell? ⟨w.heap.size, 0, none⟩ = some (.int .u64 an) := cell_later hb0 (by go_simp)
    have a1_0 : wr0.cell? ⟨w.heap.size, 1, none⟩ = some (.int .u64 ad) := cell_later hb0 (by go_simp)
    have b0_0 : wr0.cell? ⟨w.heap.size + 1, 0, none⟩ = some (.int .u64 bn) := cell_later hb0 (by go_simp)
    have b1_0 : wr0.cell? ⟨w.heap.size + 1, 1, none⟩ = some (.int .u64 bd) := cell_later hb0 (by go_simp)
    have c0_0 : wr0.cell? ⟨w.heap.size + 1 + 1, 0, none⟩ = some (.int .u64 cn) := cell_later hb0 (by go_simp)
    have c1_0 : wr0.cell? ⟨w.heap.size + 1 + 1, 1, none⟩ = some (.int .u64 cd) := cell_later hb0 (by go_simp)
    have B0 : Below w.heap.size w wr0 := ((((Below.refl _ _).alloc (Nat.le_refl _) _).alloc (by simp) _).alloc (by simp; omega) _).trans (hb0.mono (by simp; omega))
    clear hb0
    go_wp2_with fail
    refine (wless_any an ad bn bd w1 w2 w3 w4 _).mono ?_
    rintro e wr1 ⟨rfl, hb1⟩
    have a0_1 := cell_later hb1 a0_0
    have a1_1 := cell_later hb1 a1_0
    have b0_1 := cell_later hb1 b0_0
    have b1_1 := cell_later hb1 b1_0
    have c0_1 := cell_later hb1 c0_0
    have c1_1 := cell_later hb1 c1_0
    have B1 := B0.trans (hb1.mono B0.size)
    clear a0_0 a1_0 b0_0 b1_0 c0_0 c1_0 B0 hb1
    go_wp2_with fail
    refine (wless_any an ad bn bd w1 w2 w3 w4 _).mono ?_
    rintro e wr2 ⟨rfl, hb2⟩
    have a0_2 := cell_later hb2 a0_1
    have a1_2 := cell_later hb2 a1_1
    have b0_2 := cell_later hb2 b0_1
    have b1_2 := cell_later hb2 b1_1
    have c0_2 := cell_later hb2 c0_1
    have c1_2 := cell_later hb2 c1_1
    have B2 := B1.trans (hb2.mono B1.size)
    clear a0_1 a1_1 b0_1 b1_1 c0_1 c1_1 B1 hb2
    go_wp2_with fail
    go_region_held3 (fun w' => w'.cell? ⟨w.heap.size, 0, none⟩ = some (.int .u64 an) ∧ w'.cell? ⟨w.heap.size, 1, none⟩ = some (.int .u64 ad) ∧ w'.cell? ⟨w.heap.size + 1, 0, none⟩ = some (.int .u64 bn) ∧ w'.cell? ⟨w.heap.size + 1, 1, none⟩ = some (.int .u64 bd) ∧ Below w.heap.size w w')
      ((first | exact ⟨a0_2, a1_2, b0_2, b1_2, B2.drew⟩ | exact held_keep (by assumption) hbA | assumption))
      (first
        | (go_at_call 22; refine (wless_any _ _ _ _ (by assumption) (by assumption) (by assumption) (by assumption) _).mono ?_; rintro e wA ⟨rfl, hbA⟩)
        | (go_at_call 23; refine (rfewer_any _ _ _ _ (by assumption) (by assumption) (by assumption) (by assumption) _).mono ?_; rintro e wA ⟨rfl, hbA⟩))
    go_wp2_with fail
    refine bodyPost_ret (v := .bool true) (by simp [results, Try.results6, go_sem]) rfl ⟨rfl, ?_⟩
    exact held_bel (B := w.heap.size) (W := w) (w := wA) (an := an) (ad := ad) (bn := bn) (bd := bd) (by assumption)
  | true =>
    have ht := few_anti w2 w4 hp
    cases hq : fewB bn bd cn cd with
    | false =>
      go_enter Try.func6, Try.ntmps6
      go_wp2_with fail
      refine (alive_any _).mono ?_
      rintro e wr0 ⟨rfl, hb0⟩
      have a0_0 : wr0.cell? ⟨w.heap.size, 0, none⟩ = some (.int .u64 an) := cell_later hb0 (by go_simp)
      have a1_0 : wr0.cell? ⟨w.heap.size, 1, none⟩ = some (.int .u64 ad) := cell_later hb0 (by go_simp)
      have b0_0 : wr0.cell? ⟨w.heap.size + 1, 0, none⟩ = some (.int .u64 bn) := cell_later hb0 (by go_simp)
      have b1_0 : wr0.cell? ⟨w.heap.size + 1, 1, none⟩ = some (.int .u64 bd) := cell_later hb0 (by go_simp)
      have c0_0 : wr0.cell? ⟨w.heap.size + 1 + 1, 0, none⟩ = some (.int .u64 cn) := cell_later hb0 (by go_simp)
      have c1_0 : wr0.cell? ⟨w.heap.size + 1 + 1, 1, none⟩ = some (.int .u64 cd) := cell_later hb0 (by go_simp)
      have B0 : Below w.heap.size w wr0 := ((((Below.refl _ _).alloc (Nat.le_refl _) _).alloc (by simp) _).alloc (by simp; omega) _).trans (hb0.mono (by simp; omega))
      clear hb0
      go_wp2_with fail
      refine (wless_any an ad bn bd w1 w2 w3 w4 _).mono ?_
      rintro e wr1 ⟨rfl, hb1⟩
      have a0_1 := cell_later hb1 a0_0
      have a1_1 := cell_later hb1 a1_0
      have b0_1 := cell_later hb1 b0_0
      have b1_1 := cell_later hb1 b1_0
      have c0_1 := cell_later hb1 c0_0
      have c1_1 := cell_later hb1 c1_0
      have B1 := B0.trans (hb1.mono B0.size)
      clear a0_0 a1_0 b0_0 b1_0 c0_0 c1_0 B0 hb1
      go_wp2_with fail
      refine (wless_any bn bd cn cd w3 w4 w5 w6 _).mono ?_
      rintro e wr2 ⟨rfl, hb2⟩
      have a0_2 := cell_later hb2 a0_1
      have a1_2 := cell_later hb2 a1_1
      have b0_2 := cell_later hb2 b0_1
      have b1_2 := cell_later hb2 b1_1
      have c0_2 := cell_later hb2 c0_1
      have c1_2 := cell_later hb2 c1_1
      have B2 := B1.trans (hb2.mono B1.size)
      clear a0_1 a1_1 b0_1 b1_1 c0_1 c1_1 B1 hb2
      go_wp2_with fail
      refine (wless_any an ad bn bd w1 w2 w3 w4 _).mono ?_
      rintro e wr3 ⟨rfl, hb3⟩
      have a0_3 := cell_later hb3 a0_2
      have a1_3 := cell_later hb3 a1_2
      have b0_3 := cell_later hb3 b0_2
      have b1_3 := cell_later hb3 b1_2
      have c0_3 := cell_later hb3 c0_2
      have c1_3 := cell_later hb3 c1_2
      have B3 := B2.trans (hb3.mono B2.size)
      clear a0_2 a1_2 b0_2 b1_2 c0_2 c1_2 B2 hb3
      go_wp2_with fail
      refine (wless_any bn bd an ad w3 w4 w1 w2 _).mono ?_
      rintro e wr4 ⟨rfl, hb4⟩
      have a0_4 := cell_later hb4 a0_3
      have a1_4 := cell_later hb4 a1_3
      have b0_4 := cell_later hb4 b0_3
      have b1_4 := cell_later hb4 b1_3
      have c0_4 := cell_later hb4 c0_3
      have c1_4 := cell_later hb4 c1_3
      have B4 := B3.trans (hb4.mono B3.size)
      clear a0_3 a1_3 b0_3 b1_3 c0_3 c1_3 B3 hb4
      go_wp2_with fail
      go_region_held3 (fun w' => w'.cell? ⟨w.heap.size, 0, none⟩ = some (.int .u64 an) ∧ w'.cell? ⟨w.heap.size, 1, none⟩ = some (.int .u64 ad) ∧ w'.cell? ⟨w.heap.size + 1, 0, none⟩ = some (.int .u64 bn) ∧ w'.cell? ⟨w.heap.size + 1, 1, none⟩ = some (.int .u64 bd) ∧ Below w.heap.size w w')
        ((first | exact ⟨a0_4, a1_4, b0_4, b1_4, B4.drew⟩ | exact held_keep (by assumption) hbA | assumption))
        (first
          | (go_at_call 22; refine (wless_any _ _ _ _ (by assumption) (by assumption) (by assumption) (by assumption) _).mono ?_; rintro e wA ⟨rfl, hbA⟩)
          | (go_at_call 23; refine (rfewer_any _ _ _ _ (by assumption) (by assumption) (by assumption) (by assumption) _).mono ?_; rintro e wA ⟨rfl, hbA⟩))
      go_wp2_with fail
      refine bodyPost_ret (v := .bool true) (by simp [results, Try.results6, go_sem]) rfl ⟨rfl, ?_⟩
      exact held_bel (B := w.heap.size) (W := w) (w := wA) (an := an) (ad := ad) (bn := bn) (bd := bd) (by assumption)
    | true =>
      have hr := few_trans w1 w2 w3 w4 w5 w6 hp hq
      go_enter Try.func6, Try.ntmps6
      go_wp2_with fail
      refine (alive_any _).mono ?_
      rintro e wr0 ⟨rfl, hb0⟩
      have a0_0 : wr0.cell? ⟨w.heap.size, 0, none⟩ = some (.int .u64 an) := cell_later hb0 (by go_simp)
      have a1_0 : wr0.cell? ⟨w.heap.size, 1, none⟩ = some (.int .u64 ad) := cell_later hb0 (by go_simp)
      have b0_0 : wr0.cell? ⟨w.heap.size + 1, 0, none⟩ = some (.int .u64 bn) := cell_later hb0 (by go_simp)
      have b1_0 : wr0.cell? ⟨w.heap.size + 1, 1, none⟩ = some (.int .u64 bd) := cell_later hb0 (by go_simp)
      have c0_0 : wr0.cell? ⟨w.heap.size + 1 + 1, 0, none⟩ = some (.int .u64 cn) := cell_later hb0 (by go_simp)
      have c1_0 : wr0.cell? ⟨w.heap.size + 1 + 1, 1, none⟩ = some (.int .u64 cd) := cell_later hb0 (by go_simp)
      have B0 : Below w.heap.size w wr0 := ((((Below.refl _ _).alloc (Nat.le_refl _) _).alloc (by simp) _).alloc (by simp; omega) _).trans (hb0.mono (by simp; omega))
      clear hb0
      go_wp2_with fail
      refine (wless_any an ad bn bd w1 w2 w3 w4 _).mono ?_
      rintro e wr1 ⟨rfl, hb1⟩
      have a0_1 := cell_later hb1 a0_0
      have a1_1 := cell_later hb1 a1_0
      have b0_1 := cell_later hb1 b0_0
      have b1_1 := cell_later hb1 b1_0
      have c0_1 := cell_later hb1 c0_0
      have c1_1 := cell_later hb1 c1_0
      have B1 := B0.trans (hb1.mono B0.size)
      clear a0_0 a1_0 b0_0 b1_0 c0_0 c1_0 B0 hb1
      go_wp2_with fail
      refine (wless_any bn bd cn cd w3 w4 w5 w6 _).mono ?_
      rintro e wr2 ⟨rfl, hb2⟩
      have a0_2 := cell_later hb2 a0_1
      have a1_2 := cell_later hb2 a1_1
      have b0_2 := cell_later hb2 b0_1
      have b1_2 := cell_later hb2 b1_1
      have c0_2 := cell_later hb2 c0_1
      have c1_2 := cell_later hb2 c1_1
      have B2 := B1.trans (hb2.mono B1.size)
      clear a0_1 a1_1 b0_1 b1_1 c0_1 c1_1 B1 hb2
      go_wp2_with fail
      refine (wless_any an ad cn cd w1 w2 w5 w6 _).mono ?_
      rintro e wr3 ⟨rfl, hb3⟩
      have a0_3 := cell_later hb3 a0_2
      have a1_3 := cell_later hb3 a1_2
      have b0_3 := cell_later hb3 b0_2
      have b1_3 := cell_later hb3 b1_2
      have c0_3 := cell_later hb3 c0_2
      have c1_3 := cell_later hb3 c1_2
      have B3 := B2.trans (hb3.mono B2.size)
      clear a0_2 a1_2 b0_2 b1_2 c0_2 c1_2 B2 hb3
      go_wp2_with fail
      refine (wless_any an ad bn bd w1 w2 w3 w4 _).mono ?_
      rintro e wr4 ⟨rfl, hb4⟩
      have a0_4 := cell_later hb4 a0_3
      have a1_4 := cell_later hb4 a1_3
      have b0_4 := cell_later hb4 b0_3
      have b1_4 := cell_later hb4 b1_3
      have c0_4 := cell_later hb4 c0_3
      have c1_4 := cell_later hb4 c1_3
      have B4 := B3.trans (hb4.mono B3.size)
      clear a0_3 a1_3 b0_3 b1_3 c0_3 c1_3 B3 hb4
      go_wp2_with fail
      refine (wless_any bn bd an ad w3 w4 w1 w2 _).mono ?_
      rintro e wr5 ⟨rfl, hb5⟩
      have a0_5 := cell_later hb5 a0_4
      have a1_5 := cell_later hb5 a1_4
      have b0_5 := cell_later hb5 b0_4
      have b1_5 := cell_later hb5 b1_4
      have c0_5 := cell_later hb5 c0_4
      have c1_5 := cell_later hb5 c1_4
      have B5 := B4.trans (hb5.mono B4.size)
      clear a0_4 a1_4 b0_4 b1_4 c0_4 c1_4 B4 hb5
      go_wp2_with fail
      go_region_held3 (fun w' => w'.cell? ⟨w.heap.size, 0, none⟩ = some (.int .u64 an) ∧ w'.cell? ⟨w.heap.size, 1, none⟩ = some (.int .u64 ad) ∧ w'.cell? ⟨w.heap.size + 1, 0, none⟩ = some (.int .u64 bn) ∧ w'.cell? ⟨w.heap.size + 1, 1, none⟩ = some (.int .u64 bd) ∧ Below w.heap.size w w')
        ((first | exact ⟨a0_5, a1_5, b0_5, b1_5, B5.drew⟩ | exact held_keep (by assumption) hbA | assumption))
        (first
          | (go_at_call 22; refine (wless_any _ _ _ _ (by assumption) (by assumption) (by assumption) (by assumption) _).mono ?_; rintro e wA ⟨rfl, hbA⟩)
          | (go_at_call 23; refine (rfewer_any _ _ _ _ (by assumption) (by assumption) (by assumption) (by assumption) _).mono ?_; rintro e wA ⟨rfl, hbA⟩))
      go_wp2_with fail
      refine bodyPost_ret (v := .bool true) (by simp [results, Try.results6, go_sem]) rfl ⟨rfl, ?_⟩
      exact held_bel (B := w.heap.size) (W := w) (w := wA) (an := an) (ad := ad) (bn := bn) (bd := bd) (by assumption)
end Go.Proofs.Ytdkkpiplfkdkgaa
