/-
  Walks: the laws CellsFewer and CellsEnds.
-/
import Derived.Test.YtbkiekogphfabaaCellA
namespace Go.Proofs.Ytbkiekogphfabaa
set_option linter.unusedVariables false
set_option linter.unusedSimpArgs false
open Go.RowKit

/-- What New tells of any closeness: a table, or none and some error. -/
def NewD (w : World) (u v : Int) (e : Ending) (w' : World) : Prop :=
  (∃ B S n, e = .returned (.tuple #[.pointer (some ⟨B, 0, none⟩), .int .i64 0]) ∧ TabX w' B S u v n ∧ Below w.heap.size w w') ∨
  (e = .returned (.tuple #[.pointer none, .int .i64 6]) ∧ Below w.heap.size w w') ∨ (e = .returned (.tuple #[.pointer none, .int .i64 1]) ∧ Below w.heap.size w w')
theorem cnew_any (u v : Int) (wu : Word u) (wv : Word v) (w : World) : Calls Try.prog 9 #[.agg #[.int .u64 u, .int .u64 v]] w (NewD w u v) := by
  by_cases hg : goodC u v = true
  · refine (cnew_good u v (goodC_iff.1 hg) w).mono ?_
    rintro e w' (⟨B, S, n, rfl, ht, _, hb⟩ | ⟨rfl, _, hb⟩)
    · exact Or.inl ⟨B, S, n, rfl, ht, hb⟩
    · exact Or.inr (Or.inl ⟨rfl, hb⟩)
  · refine (cnew_bad u v wu wv (by simpa using hg) w).mono ?_
    rintro e w' ⟨rfl, hb⟩
    exact Or.inr (Or.inr ⟨rfl, hb⟩)

set_option maxRecDepth 100000 in
set_option maxHeartbeats 2000000 in
theorem cells_fewer_walk (u x v m : Int) (wu : Word u) (wx : Word x) (wv : Word v) (wm : Word m) (w : World) :
    Calls Try.prog 7 #[.int .u64 u, .int .u64 x, .int .u64 v, .int .u64 m] w fun e w' => e = .returned (.bool true) ∧ Below w.heap.size w w' := by
  obtain ⟨m0, m1⟩ := id wm
  by_cases g1 : 100 < v
  · go_enter Try.func7, Try.ntmps7
    go_wp2_with fail
    refine (alive11_any _).mono ?_
    rintro e w2 ⟨rfl, hb2⟩
    go_wp2_with fail
    go_ret
    exact ⟨rfl, hb2⟩
  · have f1 : decide (100 < v) = false := decide_eq_false g1
    by_cases g2 : x < u
    · go_enter Try.func7, Try.ntmps7
      go_wp2_with fail
      refine (alive11_any _).mono ?_
      rintro e w2 ⟨rfl, hb2⟩
      go_wp2_with fail
      go_ret
      exact ⟨rfl, hb2⟩
    · have f2 : decide (x < u) = false := decide_eq_false g2
      by_cases g3 : m = 0
      · subst g3
        go_enter Try.func7, Try.ntmps7
        go_wp2_with fail
        refine (alive11_any _).mono ?_
        rintro e w2 ⟨rfl, hb2⟩
        go_wp2_with fail
        go_ret
        exact ⟨rfl, hb2⟩
      · have f3 : (m == 0) = false := by simp; omega
        by_cases g4 : 9223372036854775808 < m
        · go_enter Try.func7, Try.ntmps7
          go_wp2_with fail
          refine (alive11_any _).mono ?_
          rintro e w2 ⟨rfl, hb2⟩
          go_wp2_with fail
          go_ret
          exact ⟨rfl, hb2⟩
        · have f4 : decide (9223372036854775808 < m) = false := decide_eq_false g4
          have h1 : 1 ≤ m := by omega
          have h2 : m ≤ 9223372036854775808 := by omega
          have HN1 := Lib.hid (fun W => cnew_any u v wu wv W)
          have HN2 := Lib.hid (fun W => cnew_any x v wx wv W)
          clear g3
          go_enter Try.func7, Try.ntmps7
          go_wp2_with fail
          refine (alive11_any _).mono ?_
          rintro e w2 ⟨rfl, B2⟩
          go_wp2_with fail
          refine (HN1.out _).mono ?_
          rintro e w3 (⟨B, S, n, rfl, ht, hb3⟩ | ⟨rfl, hb3⟩ | ⟨rfl, hb3⟩)
          · have HT := Lib.hid ht
            have B3 := B2.trans (hb3.mono B2.size)
            clear ht hb3 B2
            go_wp2_with fail
            refine (HN2.out _).mono ?_
            rintro e w4 (⟨B', S', n', rfl, ht', hb4⟩ | ⟨rfl, hb4⟩ | ⟨rfl, hb4⟩)
            · have HT' := Lib.hid ht'
              have HT4 := Lib.hid (tabx_call HT.out hb4)
              have B4 := B3.trans (hb4.mono B3.size)
              have hx0 : u ≤ x := by omega
              have hnn : (n' : Int) ≤ (n : Int) := by have := fewer_cells HT.out.1 ht'.1 hx0 HT.out.2.1 ht'.2.1; omega
              obtain ⟨i, hi, hix, ha, hb⟩ := idx_at HT.out.1 HT.out.2.1 h1 h2
              have hc := rep_close HT.out.1 (low_pos HT.out.1 i) ha hb
              have hrw := rep_word HT.out.1 (low_pos HT.out.1 i)
              have hmu : m * u ≤ m * x := Int.mul_le_mul_of_nonneg_left hx0 (by omega)
              obtain ⟨r, hr⟩ : ∃ r, repC u v (lowC u v i) = r := ⟨_, rfl⟩
              obtain ⟨d, hd⟩ : ∃ d, gapC r m = d := ⟨_, rfl⟩
              obtain ⟨p, hp⟩ : ∃ p, m * x = p := ⟨_, rfl⟩
              obtain ⟨y, hy⟩ : ∃ y, d * v = y := ⟨_, rfl⟩
              rw [hr] at hc hrw
              have hdw : Word d := by unfold Word; unfold gapC at hd; omega
              rw [hd, hy] at hc
              rw [hp] at hmu
              obtain ⟨x0, x1⟩ := mul_bd wm wx
              obtain ⟨y0, y1⟩ := mul_bd hdw wv
              rw [hp] at x0 x1
              rw [hy] at y0 y1
              have c3 : decide (p < y) = false := decide_eq_false (by omega)
              have HIX := Lib.hid hix
              have HR := Lib.hid hr
              have HTX := Lib.hid (fun W => rtimes_to m x p wm wx hp W)
              have HTY := Lib.hid (fun W => rtimes_to d v y hdw wv hy W)
              have HGP := Lib.hid (fun W => gap11_any r m d (by unfold Word; omega) wm hd W)
              have HLS := Lib.hid (fun W => less_two p y x0 x1 y0 y1 W)
              rw [c3] at HLS
              clear hix hr hd hp hy hc x0 x1 y0 y1 hdw c3 ha hb hmu ht' hb4 B3 HT
              go_wp2_with fail
              refine (tindex_yes _ B S u v m n i HT4.out h1 h2 HIX.out).mono ?_
              rintro e w5 ⟨rfl, hb5⟩
              have HT5 := Lib.hid (tabx_call HT4.out hb5)
              have HT6 := Lib.hid (tabx_call HT'.out hb5)
              have B5 := B4.trans (hb5.mono B4.size)
              clear B4 hb5
              go_wp2_with fail
              refine (trep_any _ B S u v n i r HT5.out hi HR.out).mono ?_
              rintro e w6 ⟨rfl, rfl⟩
              go_wp2_with fail
              refine (tlen_any _ B' S' x v n' HT6.out).mono ?_
              rintro e w6 ⟨rfl, rfl⟩
              go_wp2_with fail
              refine (tlen_any _ B S u v n HT5.out).mono ?_
              rintro e w6 ⟨rfl, rfl⟩
              go_wp2_with fail
              refine (HTX.out _).mono ?_
              rintro e w6 ⟨rfl, hb6⟩
              have B6 := B5.trans (hb6.mono B5.size)
              go_wp2_with fail
              refine (HGP.out _).mono ?_
              rintro e w7 ⟨rfl, rfl⟩
              go_wp2_with fail
              refine (HTY.out _).mono ?_
              rintro e w7 ⟨rfl, hb7⟩
              have B7 := B6.trans (hb7.mono B6.size)
              go_wp2_with fail
              refine (HLS.out _).mono ?_
              rintro e w8 ⟨rfl, hb8⟩
              go_wp2_with fail
              go_ret
              exact ⟨rfl, B7.trans (hb8.mono B7.size)⟩
            all_goals
              go_wp2_with fail
              go_ret
              exact ⟨rfl, B3.trans (hb4.mono B3.size)⟩
          all_goals
            have B3 := B2.trans (hb3.mono B2.size)
            clear hb3 B2
            go_wp2_with fail
            refine (HN2.out _).mono ?_
            rintro e w4 (⟨B', S', n', rfl, ht', hb4⟩ | ⟨rfl, hb4⟩ | ⟨rfl, hb4⟩)
            all_goals
              go_wp2_with fail
              go_ret
              exact ⟨rfl, B3.trans (hb4.mono B3.size)⟩

/-- The remainder by which CellsEnds asks for a cell. -/
theorem at_mod (t : Int) (n : Nat) (hn : 1 ≤ n) (hn2 : n ≤ 4096) : ∃ i : Nat, i < n ∧ wrap64 ((IntKind.u64.wrap t).tmod n) = i := by
  rw [IntKind.wrap_u64]
  have h2 := Int.emod_nonneg t (show (18446744073709551616 : Int) ≠ 0 by omega)
  rw [Int.tmod_eq_emod_of_nonneg h2]
  have h0 := Int.emod_nonneg (t % 18446744073709551616) (show (n : Int) ≠ 0 by omega)
  have h1 := Int.emod_lt_of_pos (t % 18446744073709551616) (show (0 : Int) < n by omega)
  refine ⟨((t % 18446744073709551616) % n).toNat, by omega, ?_⟩
  unfold wrap64
  omega

set_option maxRecDepth 100000 in
set_option maxHeartbeats 2000000 in
theorem cells_ends_walk (u v t : Int) (wu : Word u) (wv : Word v) (ht : I64 t) (w : World) :
    Calls Try.prog 5 #[.agg #[.int .u64 u, .int .u64 v], .int .i64 t] w fun e w' => e = .returned (.bool true) ∧ Below w.heap.size w w' := by
  have HN1 := Lib.hid (fun W => cnew_any u v wu wv W)
  go_enter Try.func5, Try.ntmps5
  go_wp2_with fail
  refine (alive11_any _).mono ?_
  rintro e w2 ⟨rfl, hb2⟩
  have p2 : w2.cell? ⟨w.heap.size, 0, none⟩ = some (.int .u64 u) := cell_later hb2 (by go_simp)
  have q2 : w2.cell? ⟨w.heap.size, 1, none⟩ = some (.int .u64 v) := cell_later hb2 (by go_simp)
  have B2 := ((Below.refl _ _).alloc (Nat.le_refl _) _).trans (hb2.mono (by simp))
  clear hb2
  go_wp2_with fail
  refine (HN1.out _).mono ?_
  rintro e w3 (⟨B, S, n, rfl, htb, hb3⟩ | ⟨rfl, hb3⟩ | ⟨rfl, hb3⟩)
  · have HT := Lib.hid htb
    have B3 := B2.trans (hb3.mono B2.size)
    have hn1 := tab_pos htb.2.1
    have hn2 := htb.2.2.1
    obtain ⟨i, hi, him⟩ := at_mod t n hn1 hn2
    have HIM := Lib.hid him
    obtain ⟨E0, hE0⟩ : ∃ E, endC u v (lowC u v 0) = E := ⟨_, rfl⟩
    obtain ⟨lz, hlz⟩ : ∃ x, lowC u v (n - 1) = x := ⟨_, rfl⟩
    obtain ⟨lo, hlo⟩ : ∃ x, lowC u v i = x := ⟨_, rfl⟩
    obtain ⟨E, hE⟩ : ∃ E, endC u v (lowC u v i) = E := ⟨_, rfl⟩
    obtain ⟨r, hr⟩ : ∃ r, repC u v (lowC u v i) = r := ⟨_, rfl⟩
    have hze : endC u v (lowC u v (n - 1)) = 9223372036854775808 := tab_last (by rw [show n - 1 + 1 = n by omega]; exact htb.2.1)
    have hb := tab_end htb.1 htb.2.1 hi
    have hlp := low_pos htb.1 i
    have hx1 := idx_is htb.1 htb.2.1 hi (Int.le_refl _) hb.1
    have hx2 := idx_is htb.1 htb.2.1 hi hb.1 (Int.le_refl _)
    have HR2 : Hid (i + 1 < n → lo ≤ r ∧ r ≤ E ∧ lowC u v (i + 1) = E + 1 ∧ r ≤ repC u v (lowC u v (i + 1))) := Lib.hid fun h => by
      have a := htb.2.1.1 (i + 1) h
      rw [low_succ] at a
      have b := rep_in htb.1 hlp (by omega)
      have c := raw_ge htb.1 (low_pos htb.1 (i + 1))
      have d : lowC u v (i + 1) = E + 1 := by rw [low_succ, hE]
      rw [hr, hE, hlo] at b
      rw [hE] at a
      refine ⟨b.1, b.2, d, ?_⟩
      rw [d] at c ⊢
      unfold repC; omega
    rw [hE, hlo] at hb
    rw [hlo] at hlp hx1
    rw [hE] at hx2
    have HTR : Hid (∀ W, TabX W B S u v n → Calls Try.prog 15 #[.pointer (some ⟨B, 0, none⟩), .int .i64 ((n : Int) - 1)] W fun e w' => e = .returned (.tuple #[.int .u64 lz, .int .u64 9223372036854775808]) ∧ ∃ m, w' = W.drewN m) := Lib.hid fun W hW => by
      rw [show (n : Int) - 1 = ((n - 1 : Nat) : Int) by omega]
      exact trange_any W B S u v n (n - 1) lz _ hW (by omega) hlz hze
    have HE0 := Lib.hid hE0
    have HLO := Lib.hid hlo
    have HE := Lib.hid hE
    have HR := Lib.hid hr
    have HX1 := Lib.hid hx1
    have HX2 := Lib.hid hx2
    clear htb hb3 B2 him hE0 hlz hlo hE hr hze hx1 hx2
    go_wp2_with fail
    refine (tlen_any _ B S u v n HT.out).mono ?_
    rintro e w4 ⟨rfl, rfl⟩
    go_wp2_with fail
    refine (trange_any _ B S u v n 0 1 E0 HT.out (by omega) rfl HE0.out).mono ?_
    rintro e w4 ⟨rfl, nq, rfl⟩
    have HT4 := Lib.hid (tabx_call HT.out (below_drewN (Below.refl _ _) nq))
    have B4 : Below w.heap.size w (w3.drewN nq) := below_drewN B3 nq
    generalize w3.drewN nq = w4 at *
    clear B3 HT
    go_wp2_with fail
    refine (HTR.out _ HT4.out).mono ?_
    rintro e w5 ⟨rfl, nq2, rfl⟩
    have HT5 := Lib.hid (tabx_call HT4.out (below_drewN (Below.refl _ _) nq2))
    have B5 : Below w.heap.size w (w4.drewN nq2) := below_drewN B4 nq2
    generalize w4.drewN nq2 = w5 at *
    clear B4 HT4 HTR
    go_wp2_with fail
    rw [HIM.out]
    refine (trange_any _ B S u v n i lo E HT5.out hi HLO.out HE.out).mono ?_
    rintro e w6 ⟨rfl, nq3, rfl⟩
    have HT6 := Lib.hid (tabx_call HT5.out (below_drewN (Below.refl _ _) nq3))
    have B6 : Below w.heap.size w (w5.drewN nq3) := below_drewN B5 nq3
    generalize w5.drewN nq3 = w6 at *
    clear B5 HT5
    go_wp2_with fail
    refine (tindex_yes _ B S u v lo n i HT6.out hlp (by omega) HX1.out).mono ?_
    rintro e w7 ⟨rfl, hb7⟩
    have HT7 := Lib.hid (tabx_call HT6.out hb7)
    have B7 := B6.trans (hb7.mono B6.size)
    clear B6 HT6 hb7
    go_wp2_with fail
    refine (tindex_yes _ B S u v E n i HT7.out (by omega) hb.2 HX2.out).mono ?_
    rintro e w8 ⟨rfl, hb8⟩
    have HT8 := Lib.hid (tabx_call HT7.out hb8)
    have B8 := B7.trans (hb8.mono B7.size)
    clear B7 HT7 hb8
    have e2 : (!(i : Int) == (i : Int)) = false := by simp
    have e3 : decide (E < lo) = false := decide_eq_false (by omega)
    by_cases hl : i + 1 = n
    · have e4 : ((i : Int) == (n : Int) - 1) = true := by simp; omega
      clear hl
      go_wp2_with fail
      go_ret
      exact ⟨rfl, B8⟩
    · have e4 : ((i : Int) == (n : Int) - 1) = false := by simp; omega
      have hi1 : i + 1 < n := by omega
      obtain ⟨c1, c2, c3, c4⟩ := HR2.out hi1
      obtain ⟨r', hr'⟩ : ∃ r', repC u v (lowC u v (i + 1)) = r' := ⟨_, rfl⟩
      rw [hr'] at c4
      obtain ⟨E2, hE2⟩ : ∃ x, endC u v (lowC u v (i + 1)) = x := ⟨_, rfl⟩
      have HTR : Hid (∀ W, TabX W B S u v n → Calls Try.prog 15 #[.pointer (some ⟨B, 0, none⟩), .int .i64 ((i : Int) + 1)] W fun e w' => e = .returned (.tuple #[.int .u64 (E + 1), .int .u64 E2]) ∧ ∃ m, w' = W.drewN m) := Lib.hid fun W hW => by
        rw [show (i : Int) + 1 = ((i + 1 : Nat) : Int) by omega]
        exact trange_any W B S u v n (i + 1) (E + 1) E2 hW hi1 c3 hE2
      have HTP : Hid (∀ W, TabX W B S u v n → Calls Try.prog 16 #[.pointer (some ⟨B, 0, none⟩), .int .i64 ((i : Int) + 1)] W fun e w' => e = .returned (.int .u64 r') ∧ W = w') := Lib.hid fun W hW => by
        rw [show (i : Int) + 1 = ((i + 1 : Nat) : Int) by omega]
        exact trep_any W B S u v n (i + 1) r' hW hi1 hr'
      clear hl c3 hr' hE2 HR2
      have e5 : (E + 1 == E + 1) = true := by simp
      go_wp2_with fail
      refine (HTR.out _ HT8.out).mono ?_
      rintro e w9 ⟨rfl, nq4, rfl⟩
      have HT9 := Lib.hid (tabx_call HT8.out (below_drewN (Below.refl _ _) nq4))
      have B9 : Below w.heap.size w (w8.drewN nq4) := below_drewN B8 nq4
      generalize w8.drewN nq4 = w9 at *
      clear B8 HT8 HTR
      go_wp2_with fail
      refine (trep_any _ B S u v n i r HT9.out hi HR.out).mono ?_
      rintro e w10 ⟨rfl, rfl⟩
      go_wp2_with fail
      refine (trep_any _ B S u v n i r HT9.out hi HR.out).mono ?_
      rintro e w10 ⟨rfl, rfl⟩
      go_wp2_with fail
      refine (HTP.out _ HT9.out).mono ?_
      rintro e w10 ⟨rfl, rfl⟩
      go_wp2_with fail
      refine (trep_any _ B S u v n i r HT9.out hi HR.out).mono ?_
      rintro e w10 ⟨rfl, rfl⟩
      go_wp2_with fail
      go_ret
      exact ⟨rfl, B9⟩
  all_goals
    go_wp2_with fail
    go_ret
    exact ⟨rfl, B2.trans (hb3.mono B2.size)⟩
end Go.Proofs.Ytbkiekogphfabaa
