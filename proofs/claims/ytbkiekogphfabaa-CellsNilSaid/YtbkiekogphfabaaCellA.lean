/-
  Walks: the laws' alive and gap of layer 11; the laws CellsNil, CellsClose, CellsEnds, CellsFewer.
-/
import Derived.Test.YtbkiekogphfabaaCellN
import Derived.Test.YtbkiekogphfabaaCellS
import Derived.Test.YtbkiekogphfabaaWideE
import Derived.Test.YtbkiekogphfabaaWideD
namespace Go.Proofs.Ytbkiekogphfabaa
set_option linter.unusedVariables false
set_option linter.unusedSimpArgs false
open Go.RowKit

/-- New's answers, one by one. -/
theorem cnew_ten (w : World) : Calls Try.prog 9 #[.agg #[.int .u64 1, .int .u64 10]] w fun e w' => ∃ B S, e = .returned (.tuple #[.pointer (some ⟨B, 0, none⟩), .int .i64 0]) ∧ TabX w' B S 1 10 215 ∧ Below w.heap.size w w' := by
  have g : GoodC 1 10 := by unfold GoodC; omega
  refine (cnew_good 1 10 g w).mono ?_
  rintro e w' (⟨B, S, n, rfl, ht, _, hb⟩ | ⟨_, hl, _⟩)
  · obtain rfl := tab_one g ht.2.1 tab_ten
    exact ⟨B, S, rfl, ht, hb⟩
  · have h := low_mono g (show 215 ≤ 4096 by omega)
    rw [tab_ten.2] at h
    exact absurd hl (by omega)

set_option maxHeartbeats 1000000 in
theorem alive11_any (w : World) : Calls Try.prog 8 #[] w fun e w' => e = .returned (.bool true) ∧ Below w.heap.size w w' := by
  obtain ⟨i, hi, hix, ha, hb⟩ := idx_at (u := 1) (v := 10) (by unfold GoodC; omega) tab_ten (m := 100) (by omega) (by omega)
  have hc := rep_close (u := 1) (v := 10) (by unfold GoodC; omega) (low_pos (u := 1) (v := 10) (by unfold GoodC; omega) i) ha hb
  obtain ⟨x, hx⟩ : ∃ x, repC 1 10 (lowC 1 10 i) = x := ⟨_, rfl⟩
  rw [hx] at hc
  have x0 : 90 ≤ x := by unfold gapC at hc; omega
  have x1 : x ≤ 110 := by unfold gapC at hc; omega
  have HX := Lib.hid hx
  have HI := Lib.hid hix
  clear hc hx hix ha hb
  go_enter Try.func8, Try.ntmps8
  go_wp2_with fail
  refine (cnew_ten _).mono ?_
  rintro e w2 ⟨B, S, rfl, ht, hb2⟩
  have HT := Lib.hid ht
  clear ht
  go_wp2_with fail
  refine (tindex_yes _ B S 1 10 100 215 i HT.out (by omega) (by omega) HI.out).mono ?_
  rintro e w3 ⟨rfl, hb3⟩
  have HT3 := Lib.hid (tabx_call HT.out hb3)
  go_wp2_with fail
  refine (trep_any _ B S 1 10 215 i x HT3.out hi HX.out).mono ?_
  rintro e w4 ⟨rfl, rfl⟩
  go_wp2_with fail
  refine (tlen_any _ B S 1 10 215 HT3.out).mono ?_
  rintro e w4 ⟨rfl, rfl⟩
  go_wp2_with fail
  go_ret
  exact ⟨rfl, hb2.trans (hb3.mono hb2.size)⟩

theorem gap11_any (a b x : Int) (wa : Word a) (wb : Word b) (hx : gapC a b = x) (w : World) :
    Calls Try.prog 20 #[.int .u64 a, .int .u64 b] w fun e w' => e = .returned (.int .u64 x) ∧ w = w' := by
  have HX : Hid (max a b - min a b = x) := Lib.hid hx
  obtain ⟨a0, a1⟩ := wa
  obtain ⟨b0, b1⟩ := wb
  clear hx
  go_enter Try.func20, Try.ntmps20
  go_wp2_with fail
  go_ret
  exact ⟨ret_int HX.out, rfl⟩

set_option maxHeartbeats 1000000 in
theorem cells_nil_walk (m i : Int) (wm : Word m) (hi : I64 i) (w : World) :
    Calls Try.prog 6 #[.int .u64 m, .int .i64 i] w fun e w' => e = .returned (.bool true) ∧ Below w.heap.size w w' := by
  go_enter Try.func6, Try.ntmps6
  go_wp2_with fail
  refine (alive11_any _).mono ?_
  rintro e w2 ⟨rfl, hb2⟩
  go_wp2_with fail
  refine (tindex_none _ m wm).mono ?_
  rintro e w3 ⟨rfl, hb3⟩
  go_wp2_with fail
  refine (trange_none _ i hi).mono ?_
  rintro e w4 ⟨rfl, rfl⟩
  go_wp2_with fail
  refine (trep_none _ i hi).mono ?_
  rintro e w4 ⟨rfl, rfl⟩
  go_wp2_with fail
  refine (tlen_none _).mono ?_
  rintro e w4 ⟨rfl, rfl⟩
  go_wp2_with fail
  refine (tpart_none _).mono ?_
  rintro e w4 ⟨rfl, hb4⟩
  go_wp2_with fail
  go_ret
  exact ⟨rfl, (hb2.trans (hb3.mono hb2.size)).trans (hb4.mono (hb2.trans (hb3.mono hb2.size)).size)⟩

theorem rtimes_to (a b p : Int) (wa : Word a) (wb : Word b) (hp : a * b = p) (w : World) :
    Calls Try.prog 19 #[.int .u64 a, .int .u64 b] w fun e w' => e = .returned (.agg #[.int .u64 (hiW p), .int .u64 (loW p)]) ∧ Below w.heap.size w w' := by
  subst hp; exact rtimes_any a b wa wb w

set_option maxRecDepth 100000 in
set_option maxHeartbeats 2000000 in
theorem cells_close_walk (u v m : Int) (wu : Word u) (wv : Word v) (wm : Word m) (w : World) :
    Calls Try.prog 4 #[.agg #[.int .u64 u, .int .u64 v], .int .u64 m] w fun e w' => e = .returned (.bool true) ∧ Below w.heap.size w w' := by
  have HRG := Lib.hid (fun W => rcgood_any u v wu wv W)
  by_cases hg : goodC u v = true
  · have g := goodC_iff.1 hg
    have HG := Lib.hid g
    have HN := Lib.hid (fun W => cnew_good u v g W)
    rw [hg] at HRG
    clear hg g
    obtain ⟨m0, m1⟩ := id wm
    go_enter Try.func4, Try.ntmps4
    go_wp2_with fail
    refine (alive11_any _).mono ?_
    rintro e w2 ⟨rfl, hb2⟩
    obtain ⟨bc2, bf2⟩ := bcell hb2
    have hz2 : w.heap.size < w2.heap.size := by have := hb2.size; simp at this; omega
    have B2 := ((Below.refl _ _).alloc (Nat.le_refl _) _).trans (hb2.mono (by simp))
    have p2 : w2.cell? ⟨w.heap.size, 0, none⟩ = some (.int .u64 u) := cell_later hb2 (by go_simp)
    have q2 : w2.cell? ⟨w.heap.size, 1, none⟩ = some (.int .u64 v) := cell_later hb2 (by go_simp)
    clear bc2 bf2 hb2
    go_wp2_with fail
    refine (HN.out _).mono ?_
    rintro e w3 (⟨B, S, n, rfl, ht, _, hb3⟩ | ⟨rfl, _, hb3⟩)
    · have HT := Lib.hid ht
      have hn := ht.2.2.1
      have B3 := B2.trans (hb3.mono B2.size)
      have p3 := cell_later hb3 p2
      have q3 := cell_later hb3 q2
      have hz3 : w.heap.size < w3.heap.size := by have := hb3.size; omega
      clear ht p2 q2 hb3 B2 hz2
      by_cases ho : m = 0 ∨ 9223372036854775808 < m
      · have HO := Lib.hid ho
        go_wp2_with fail
        refine (tindex_out _ B S u v m n HT.out wm HO.out).mono ?_
        rintro e w4 ⟨rfl, hb4⟩
        rcases ho with rfl | ho
        · go_wp2_with fail
          go_ret
          exact ⟨rfl, B3.trans (hb4.mono B3.size)⟩
        · have c1 : (m == 0) = false := by simp; omega
          go_wp2_with fail
          go_ret
          exact ⟨rfl, B3.trans (hb4.mono B3.size)⟩
      · have h1 : 1 ≤ m := by omega
        have h2 : m ≤ 9223372036854775808 := by omega
        obtain ⟨i, hi, hix, ha, hb⟩ := idx_at HG.out HT.out.2.1 h1 h2
        have hc := rep_close HG.out (low_pos HG.out i) ha hb
        have hrw := rep_word HG.out (low_pos HG.out i)
        have hlp := low_pos HG.out i
        have hep := end_le u v (lowC u v i)
        obtain ⟨r, hr⟩ : ∃ r, repC u v (lowC u v i) = r := ⟨_, rfl⟩
        obtain ⟨E, hE⟩ : ∃ E, endC u v (lowC u v i) = E := ⟨_, rfl⟩
        obtain ⟨lo, hlo⟩ : ∃ lo, lowC u v i = lo := ⟨_, rfl⟩
        obtain ⟨d, hd⟩ : ∃ d, gapC r m = d := ⟨_, rfl⟩
        obtain ⟨x, hx⟩ : ∃ x, m * u = x := ⟨_, rfl⟩
        obtain ⟨y, hy⟩ : ∃ y, d * v = y := ⟨_, rfl⟩
        rw [hr] at hc hrw
        rw [hE] at hb hep
        rw [hlo] at ha hlp
        have hdw : Word d := by unfold Word; unfold gapC at hd; omega
        rw [hd, hy, hx] at hc
        obtain ⟨x0, x1⟩ := mul_bd wm wu
        obtain ⟨y0, y1⟩ := mul_bd hdw wv
        rw [hx] at x0 x1
        rw [hy] at y0 y1
        have c3 : decide (x < y) = false := decide_eq_false (by omega)
        have c4 : (m == 0) = false := by simp; omega
        have HIX := Lib.hid hix
        have HR := Lib.hid hr
        have HE := Lib.hid hE
        have HLO := Lib.hid hlo
        have HTX := Lib.hid (fun W => rtimes_to m u x wm wu hx W)
        have HTY := Lib.hid (fun W => rtimes_to d v y hdw wv hy W)
        have HGP := Lib.hid (fun W => gap11_any r m d (by unfold Word; omega) wm hd W)
        have HLS := Lib.hid (fun W => less_two x y x0 x1 y0 y1 W)
        rw [c3] at HLS
        clear ho hix hr hE hlo hd hx hy hc x0 x1 y0 y1 hdw c3
        go_wp2_with fail
        refine (tindex_yes _ B S u v m n i HT.out h1 h2 HIX.out).mono ?_
        rintro e w4 ⟨rfl, hb4⟩
        have HT4 := Lib.hid (tabx_call HT.out hb4)
        have B4 := B3.trans (hb4.mono B3.size)
        have p4 := cell_later hb4 p3
        have q4 := cell_later hb4 q3
        have hz4 : w.heap.size < w4.heap.size := by have := hb4.size; omega
        clear B3 hb4 p3 q3 hz3
        go_wp2_with fail
        refine (trange_any _ B S u v n i lo E HT4.out hi HLO.out HE.out).mono ?_
        rintro e w5 ⟨rfl, nq, rfl⟩
        have hb5 : Below w4.heap.size w4 (w4.drewN nq) := below_drewN (Below.refl _ _) nq
        have HT5 := Lib.hid (tabx_call HT4.out hb5)
        have B5 := B4.trans (hb5.mono B4.size)
        have p5 := cell_later hb5 p4
        have q5 := cell_later hb5 q4
        generalize w4.drewN nq = w5 at *
        clear B4 hb5 p4 q4 HT4
        go_wp2_with fail
        refine (trep_any _ B S u v n i r HT5.out hi HR.out).mono ?_
        rintro e w6 ⟨rfl, rfl⟩
        go_wp2_with fail
        have BB : Below w5.heap.size w5 w5.drew := (Below.refl _ _).drew
        go_region_held3 (fun w' => w'.cell? ⟨w.heap.size, 0, none⟩ = some (.int .u64 u) ∧ w'.cell? ⟨w.heap.size, 1, none⟩ = some (.int .u64 v) ∧ Below w5.heap.size w5 w')
          ((first | exact ⟨p5, q5, BB⟩ | exact keep2 (by assumption) hbA | assumption))
          (first
            | (go_at_call 19; (first | (with_reducible refine (HTX.out _).mono ?_) | (with_reducible refine (HTY.out _).mono ?_)); rintro e wA ⟨rfl, hbA⟩)
            | (go_at_call 20; refine (HGP.out _).mono ?_; rintro e wA ⟨rfl, rfl⟩)
            | (go_at_call 18; refine (HLS.out _).mono ?_; rintro e wA ⟨rfl, hbA⟩))
        go_wp2_with fail
        go_ret
        exact ⟨rfl, B5.trans ((keep2_bel (by assumption)).mono B5.size)⟩
    · have B3 := B2.trans (hb3.mono B2.size)
      have p3 := cell_later hb3 p2
      have q3 := cell_later hb3 q2
      have hz3 : w.heap.size < w3.heap.size := by have := hb3.size; omega
      clear p2 q2 hb3 B2 hz2
      go_wp2_with fail
      refine (HRG.out _).mono ?_
      rintro e w4 ⟨rfl, hb4⟩
      go_wp2_with fail
      go_ret
      exact ⟨rfl, B3.trans (hb4.mono B3.size)⟩
  · have hf : goodC u v = false := by simpa using hg
    have HN := Lib.hid (fun W => cnew_bad u v wu wv hf W)
    rw [hf] at HRG
    clear hg hf
    go_enter Try.func4, Try.ntmps4
    go_wp2_with fail
    refine (alive11_any _).mono ?_
    rintro e w2 ⟨rfl, hb2⟩
    have hz2 : w.heap.size < w2.heap.size := by have := hb2.size; simp at this; omega
    have B2 := ((Below.refl _ _).alloc (Nat.le_refl _) _).trans (hb2.mono (by simp))
    have p2 : w2.cell? ⟨w.heap.size, 0, none⟩ = some (.int .u64 u) := cell_later hb2 (by go_simp)
    have q2 : w2.cell? ⟨w.heap.size, 1, none⟩ = some (.int .u64 v) := cell_later hb2 (by go_simp)
    clear hb2
    go_wp2_with fail
    refine (HN.out _).mono ?_
    rintro e w3 ⟨rfl, hb3⟩
    have B3 := B2.trans (hb3.mono B2.size)
    have p3 := cell_later hb3 p2
    have q3 := cell_later hb3 q2
    have hz3 : w.heap.size < w3.heap.size := by have := hb3.size; omega
    clear p2 q2 hb3 B2 hz2
    go_wp2_with fail
    refine (HRG.out _).mono ?_
    rintro e w4 ⟨rfl, hb4⟩
    go_wp2_with fail
    go_ret
    exact ⟨rfl, B3.trans (hb4.mono B3.size)⟩
end Go.Proofs.Ytbkiekogphfabaa
