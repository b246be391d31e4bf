/-
  Texts joined, in build order: Small, ShareP, DigS, DigV, DigW, DigC, StripC, TreeT, QuillR, QuillU, QuillI, PairJ, Plus, RunsP, DgcA, DgcB, DigK, TreeC, TreeD, ShelfK, DgcM, ShelfR.
-/
import Derived.Test.YthjcdbnjmpjikaaGreatK1
import Derived.Lib.SmallJoins
import Derived.Test.YthjcdbnjmpjikaaGreatRows
import Derived.WalkKit
import Derived.WalkSpells
import Derived.WalkLawsBesides
import Derived.WalkMore
import Derived.LoopTactic
import Derived.OneCell
import Derived.Lib.Strings
import Derived.Laws.BytesArg
import Derived.Laws.Concat
import Derived.Outline
import Derived.Deep.RegionHeld3
import Derived.Deep.Slices
import Derived.Deep.Fields
import Derived.SizedLaws
import Derived.Carry
import Derived.Deep.Onto
import Derived.Deep.QuietTactic
import Derived.BigQuiet
import Derived.Maps.OwnSet
import Derived.Maps.OwnIn
import Derived.Lib.ItoaNum
import Derived.Laws.Shifts
import Derived.Laws.BitsLemmas
import Derived.Shelf.SlIterI.Nil
import Derived.Shelf.SortM.Plain
import Derived.Shelf.SortM.SortNone
import Derived.Test.YthjcdbnjmpjikaaGreatProg
import Derived.Shelf.Slices.Reverse
/-
  Walks: the reference's Ceil, wide.Log, wide.Plus, the laws' alive.
-/
namespace Go.Proofs.YthjcdbnjmpjikaaGreat
set_option linter.unusedVariables false
open Go.RowKit Go.Shelf

theorem cl_no {n y : Int} (h : ovB n y = false) : clB n y = false ∧ clQ n y = 0 := by
  have e : clB n y = false := by unfold clB; rw [h]; rfl
  exact ⟨e, by unfold clQ; rw [e]; rfl⟩
theorem cl_full {n y : Int} (h : ovB n y = true) (hr : 0 < ovR n y) (hq : ovQ n y = 18446744073709551615) : clB n y = false ∧ clQ n y = 0 := by
  have e : clB n y = false := by unfold clB; rw [h, decide_eq_true hr, hq]; rfl
  exact ⟨e, by unfold clQ; rw [e]; rfl⟩
theorem cl_up {n y : Int} (h : ovB n y = true) (hr : 0 < ovR n y) (hq : ¬ ovQ n y = 18446744073709551615) : clB n y = true ∧ clQ n y = ovQ n y + 1 := by
  have e : clB n y = true := by unfold clB; rw [h, decide_eq_true hr]; simp [hq]
  exact ⟨e, by unfold clQ; rw [if_pos e, if_pos hr]⟩

set_option maxHeartbeats 1000000 in
theorem rceil_any (a b y : Int) (wa : Word a) (wb : Word b) (wy : Word y) (w : World) :
    Calls Tryz.prog 41 #[.int .u64 a, .int .u64 b, .int .u64 y] w fun e w' =>
      e = .returned (.tuple #[.int .u64 (clQ (a * b) y), .bool (clB (a * b) y)]) ∧ Below w.heap.size w w' := by
  obtain ⟨n0, n1⟩ := mul_bd wa wb
  obtain ⟨⟨q0, q1⟩, ⟨r0, r1⟩⟩ := ov_word (n := a * b) n0 wy
  by_cases ho : ovB (a * b) y = true
  · by_cases hr : 0 < ovR (a * b) y
    · by_cases hq : ovQ (a * b) y = 18446744073709551615
      · have E := Lib.hid (cl_full ho hr hq)
        have hq0 : (ovQ (a * b) y == 18446744073709551615) = true := by simp [hq]
        clear hq
        go_enter Tryz.func41, Tryz.ntmps41
        go_wp2_with fail
        refine (rtimes_any a b wa wb _).mono ?_
        rintro e wA ⟨rfl, hbA⟩
        go_wp2_with fail
        refine (rover_num (a * b) y n0 n1 wy _).mono ?_
        rintro e wB ⟨rfl, hbB⟩
        go_wp2_with fail
        refine bodyPost_ret (v := .tuple #[.int .u64 0, .bool false]) (by simp [results, Tryz.results41, go_sem]) rfl ⟨by rw [E.out.1, E.out.2], ?_⟩
        exact hbA.trans (hbB.mono hbA.size)
      · have E := Lib.hid (cl_up ho hr hq)
        have hq0 : (ovQ (a * b) y == 18446744073709551615) = false := by simp [hq]
        have hq1 : ovQ (a * b) y + 1 < 18446744073709551616 := by omega
        clear hq
        go_enter Tryz.func41, Tryz.ntmps41
        go_wp2_with fail
        refine (rtimes_any a b wa wb _).mono ?_
        rintro e wA ⟨rfl, hbA⟩
        go_wp2_with fail
        refine (rover_num (a * b) y n0 n1 wy _).mono ?_
        rintro e wB ⟨rfl, hbB⟩
        go_wp2_with fail
        refine bodyPost_ret (v := .tuple #[.int .u64 (ovQ (a * b) y + 1), .bool true]) (by simp [results, Tryz.results41, go_sem]) rfl ⟨by rw [E.out.1, E.out.2], ?_⟩
        exact hbA.trans (hbB.mono hbA.size)
    · have E := Lib.hid (cl_zero (n := a * b) (y := y) (by omega))
      go_enter Tryz.func41, Tryz.ntmps41
      go_wp2_with fail
      refine (rtimes_any a b wa wb _).mono ?_
      rintro e wA ⟨rfl, hbA⟩
      go_wp2_with fail
      refine (rover_num (a * b) y n0 n1 wy _).mono ?_
      rintro e wB ⟨rfl, hbB⟩
      go_wp2_with fail
      refine bodyPost_ret (v := .tuple #[.int .u64 (ovQ (a * b) y), .bool true]) (by simp [results, Tryz.results41, go_sem]) rfl ⟨by rw [E.out.1, E.out.2, ho], ?_⟩
      exact hbA.trans (hbB.mono hbA.size)
  · have ho' : ovB (a * b) y = false := by simpa using ho
    have E := Lib.hid (cl_no ho')
    clear ho
    go_enter Tryz.func41, Tryz.ntmps41
    go_wp2_with fail
    refine (rtimes_any a b wa wb _).mono ?_
    rintro e wA ⟨rfl, hbA⟩
    go_wp2_with fail
    refine (rover_num (a * b) y n0 n1 wy _).mono ?_
    rintro e wB ⟨rfl, hbB⟩
    go_wp2_with fail
    refine bodyPost_ret (v := .tuple #[.int .u64 0, .bool false]) (by simp [results, Tryz.results41, go_sem]) rfl ⟨by rw [E.out.1, E.out.2], ?_⟩
    exact hbA.trans (hbB.mono hbA.size)

theorem ceil_712 (w : World) : Calls Tryz.prog 56 #[.int .u64 7, .int .u64 1, .int .u64 2] w fun e w' =>
      e = .returned (.tuple #[.int .u64 4, .bool true]) ∧ Below w.heap.size w w' := by
  have h := ceil_any 7 1 2 (by unfold Word; omega) (by unfold Word; omega) (by unfold Word; omega) w
  rw [show clQ (7 * 1) 2 = 4 by decide, show clB (7 * 1) 2 = true by decide] at h
  exact h
theorem times_634 (w : World) : Calls Tryz.prog 82 #[.int .u64 9223372036854775808, .int .u64 4] w fun e w' =>
      e = .returned (.agg #[.int .u64 2, .int .u64 0]) ∧ Below w.heap.size w w' := by
  have h := times_any 9223372036854775808 4 (by unfold Word; omega) (by unfold Word; omega) w
  rw [show hiW (9223372036854775808 * 4) = 2 by decide, show loW (9223372036854775808 * 4) = 0 by decide] at h
  exact h

set_option maxHeartbeats 400000 in
theorem plus_nil (cap : Nat) (w : World) : Calls Tryz.prog 42 #[.slice none 0 cap] w fun e w' =>
      e = .returned (.tuple #[.int .u64 0, .bool true]) ∧ w = w' := by
  go_enter Tryz.func42, Tryz.ntmps42
  go_wp2_with fail
  go_loop [4, 9] (fun s i => s = .int .u64 0 ∧ i = .int .i64 0) (fun _ _ => 0)
  case atStart => exact ⟨rfl, rfl⟩
  case round =>
    obtain ⟨rfl, rfl⟩ := hrel
    go_wp2_with fail
    exact bodyPost_ret (v := .tuple #[.int .u64 0, .bool true]) (by simp [results, Tryz.results42, go_sem]) rfl ⟨rfl, rfl⟩

set_option maxHeartbeats 400000 in
theorem plus_any (xs : List Int) (b off cap : Nat) (w : World) (hm : xs.length ≤ maxLen) (hw : ∀ x ∈ xs, Word x)
    (hcell : ∀ i x, xs[i]? = some x → w.cell? ⟨b, off + i, none⟩ = some (.int .u64 x)) :
    Calls Tryz.prog 42 #[.slice (some ⟨b, off, none⟩) xs.length cap] w fun e w' =>
      e = .returned (.tuple #[.int .u64 (plQ xs), .bool (plB xs)]) ∧ w = w' := by
  unfold maxLen at hm
  have hpos : ∀ x ∈ xs, 0 ≤ x := fun x hx => (hw x hx).1
  have Hpos := Lib.hid hpos
  have Hw := Lib.hid hw
  have Hcell := Lib.hid hcell
  clear hpos hw hcell
  go_enter Tryz.func42, Tryz.ntmps42
  go_wp2_with fail
  go_loop [4, 9] (fun s i => ∃ k : Nat, k ≤ xs.length ∧ i = .int .i64 k ∧ s = .int .u64 (sumI (xs.take k)) ∧ sumI (xs.take k) ≤ 9223372036854775807) (fun _ i => xs.length - (intOf i).toNat)
  case atStart => exact ⟨0, Nat.zero_le _, rfl, rfl, by simp [sumI]⟩
  case round =>
    obtain ⟨k, hk, rfl, rfl, hs⟩ := hrel
    have s0 : 0 ≤ sumI (xs.take k) := sumI_nonneg (fun x hx => Hpos.out x (List.mem_of_mem_take hx))
    by_cases hlt : k < xs.length
    · obtain ⟨x, hx⟩ : ∃ x, xs[k]? = some x := ⟨_, List.getElem?_eq_getElem hlt⟩
      have e1 := Hcell.out k x hx
      have HS := Lib.hid (sumI_take hx)
      obtain ⟨x0, x1⟩ := Hw.out x (List.mem_of_getElem? hx)
      have HM := Lib.hid (sumI_mono Hpos.out (k + 1))
      clear hx
      generalize sumI (xs.take k) = s at *
      by_cases hg : 9223372036854775807 - s < x
      · have e : plB xs = false := by
          have a := HS.out; have b := HM.out
          unfold plB; apply decide_eq_false; omega
        have e2 : plQ xs = 0 := by unfold plQ; rw [e]; rfl
        have E := Lib.hid e; have E2 := Lib.hid e2
        clear e e2
        go_wp2_with fail
        exact bodyPost_ret (v := .tuple #[.int .u64 0, .bool false]) (by simp [results, Tryz.results42, go_sem]) rfl ⟨by rw [E.out, E2.out], rfl⟩
      · go_wp2_with fail
        go_round
        case rel => exact ⟨k + 1, by omega, by go_num, by rw [HS.out], by rw [HS.out]; omega⟩
        case measure => simp [intOf]; omega
    · obtain rfl : k = xs.length := by omega
      rw [List.take_length] at *
      have e : plB xs = true := by unfold plB; exact decide_eq_true hs
      have e2 : plQ xs = sumI xs := by unfold plQ; rw [if_pos e]
      have E := Lib.hid e; have E2 := Lib.hid e2
      clear e e2
      go_wp2_with fail
      exact bodyPost_ret (v := .tuple #[.int .u64 (sumI xs), .bool true]) (by simp [results, Tryz.results42, go_sem]) rfl ⟨by rw [E.out, E2.out], rfl⟩
end Go.Proofs.YthjcdbnjmpjikaaGreat

/-
  Walks: share.Place and the reference's; what places are.
-/
namespace Go.Proofs.YthjcdbnjmpjikaaGreat
set_option linter.unusedVariables false
set_option linter.unusedSimpArgs false
open Go.RowKit

/-- The place that a part asks for, of so many; the error's number. -/
def plV (a b n : Int) : Int := if gdB a b = true ∧ ¬ n = 0 then (if clQ (a * n) b < 1 then 1 else clQ (a * n) b) else 0
def plE (a b n : Int) : Int := if gdB a b = true then (if n = 0 then 5 else 0) else 1
theorem pl_bad {a b n : Int} (h : gdB a b = false) : plV a b n = 0 ∧ plE a b n = 1 := by
  unfold plV plE; rw [h]; simp
theorem pl_none {a b : Int} (h : gdB a b = true) : plV a b 0 = 0 ∧ plE a b 0 = 5 := by
  unfold plV plE; rw [h]; simp
theorem pl_good {a b n : Int} (h : gdB a b = true) (hn : ¬ n = 0) : plV a b n = (if clQ (a * n) b < 1 then 1 else clQ (a * n) b) ∧ plE a b n = 0 := by
  unfold plV plE; rw [h]; simp [hn]

/-- Rounded up, of a part that can be. -/
theorem cl_spec {a b n : Int} (wa : Word a) (wb : Word b) (wn : Word n) (h : gdB a b = true) :
    a * n ≤ clQ (a * n) b * b ∧ (clQ (a * n) b - 1) * b < a * n ∧ 0 ≤ clQ (a * n) b ∧ clQ (a * n) b ≤ n := by
  obtain ⟨hb, hab⟩ := gd_iff.1 h
  obtain ⟨a0, a1⟩ := wa; obtain ⟨b0, b1⟩ := wb; obtain ⟨n0, n1⟩ := wn
  have bp : 0 < b := by omega
  have N0 : 0 ≤ a * n := Int.mul_nonneg a0 n0
  have hle : a * n ≤ n * b := by rw [Int.mul_comm n b]; exact Int.mul_le_mul_of_nonneg_right hab n0
  have hd := Int.ediv_mul_add_emod (a * n) b
  have hr0 := Int.emod_nonneg (a * n) hb
  have hr1 := Int.emod_lt_of_pos (a * n) bp
  have hq0 := Int.ediv_nonneg N0 (show 0 ≤ b by omega)
  have hqn : a * n / b ≤ n := Int.ediv_le_of_le_mul bp hle
  have hov : ovB (a * n) b = true := by unfold ovB; apply decide_eq_true; exact ⟨bp, by omega⟩
  have eQ : ovQ (a * n) b = a * n / b := by unfold ovQ; rw [if_pos hov]
  have eR : ovR (a * n) b = a * n % b := by unfold ovR; rw [if_pos hov]
  by_cases hz : a * n % b = 0
  · have e : clQ (a * n) b = a * n / b := by rw [(cl_zero (by rw [eR]; exact hz)).2, eQ]
    rw [e]
    generalize a * n / b = q at *
    generalize a * n % b = r at *
    rw [Int.sub_mul]
    omega
  · have hlt : a * n / b < n := by
      rcases Int.lt_or_eq_of_le hqn with h1 | h1
      · exact h1
      · rw [h1] at hd; omega
    have e : clQ (a * n) b = a * n / b + 1 := by
      rw [(cl_up hov (by rw [eR]; omega) (by rw [eQ]; omega)).2, eQ]
    rw [e]
    generalize a * n / b = q at *
    generalize a * n % b = r at *
    rw [Int.sub_mul, Int.add_mul]
    omega

/-- Places are from 1 to n. -/
theorem pl_spec {a b n : Int} (wa : Word a) (wb : Word b) (wn : Word n) (h : gdB a b = true) (hn : ¬ n = 0) :
    1 ≤ plV a b n ∧ plV a b n ≤ n ∧ a * n ≤ plV a b n * b ∧ (plV a b n = 1 ∨ (plV a b n - 1) * b < a * n) := by
  obtain ⟨h1, h2, h3, h4⟩ := cl_spec wa wb wn h
  obtain ⟨hb, hab⟩ := gd_iff.1 h
  rw [(pl_good h hn).1]
  have n0 := wn.1
  have bp : 0 < b := by have := wb.1; omega
  generalize clQ (a * n) b = c at *
  split
  · rename_i hc
    have : c = 0 := by omega
    subst this
    refine ⟨by omega, by omega, by omega, Or.inl rfl⟩
  · exact ⟨by omega, h4, h1, Or.inr h2⟩
theorem pl_word {a b n : Int} (wa : Word a) (wb : Word b) (wn : Word n) : Word (plV a b n) := by
  by_cases h : gdB a b = true ∧ ¬ n = 0
  · have := pl_spec wa wb wn h.1 h.2
    exact ⟨by omega, by have := wn.2; omega⟩
  · unfold plV; rw [if_neg h]; exact ⟨by omega, by omega⟩
/-- The whole asks for the last one. -/
theorem pl_whole {a b n : Int} (wb : Word b) (wn : Word n) (h : gdB a b = true) (hn : ¬ n = 0) : plV b b n = n := by
  obtain ⟨hb, hab⟩ := gd_iff.1 h
  have hg : gdB b b = true := gd_iff.2 ⟨hb, Int.le_refl _⟩
  obtain ⟨h1, h2, h3, h4⟩ := pl_spec wb wb wn hg hn
  have bp : 0 < b := by have := wb.1; omega
  rw [Int.mul_comm b n] at h3
  have := Int.le_of_mul_le_mul_right h3 bp
  omega
/-- They rise with the part. -/
theorem pl_rise {a b c d n : Int} (wa : Word a) (wb : Word b) (wc : Word c) (wd : Word d) (wn : Word n) (h : gdB a b = true) (h' : gdB c d = true) (hn : ¬ n = 0) (hlt : plV a b n < plV c d n) : fewB a b c d = true := by
  obtain ⟨hb, hab⟩ := gd_iff.1 h
  obtain ⟨hd, hcd⟩ := gd_iff.1 h'
  obtain ⟨p1, p2, p3, p4⟩ := pl_spec wa wb wn h hn
  obtain ⟨q1, q2, q3, q4⟩ := pl_spec wc wd wn h' hn
  have bp : 0 < b := by have := wb.1; omega
  have dp : 0 < d := by have := wd.1; omega
  have np : 0 < n := by have := wn.1; omega
  have q5 : (plV c d n - 1) * d < c * n := by
    rcases q4 with q4 | q4
    · omega
    · exact q4
  rw [few_c hb hd]
  apply decide_eq_true
  generalize plV a b n = t at *
  generalize plV c d n = u at *
  have e1 : a * n * d ≤ t * b * d := Int.mul_le_mul_of_nonneg_right p3 (by omega)
  have e2 : t * (b * d) ≤ (u - 1) * (b * d) := Int.mul_le_mul_of_nonneg_right (by omega) (Int.mul_nonneg (by omega) (by omega))
  have e3 : (u - 1) * d * b < c * n * b := Int.mul_lt_mul_of_pos_right q5 bp
  have e4 : a * d * n < c * b * n := by
    have x1 : a * n * d = a * d * n := by rw [Int.mul_assoc, Int.mul_comm n, ← Int.mul_assoc]
    have x2 : t * b * d = t * (b * d) := Int.mul_assoc ..
    have x3 : (u - 1) * d * b = (u - 1) * (b * d) := by rw [Int.mul_assoc, Int.mul_comm d]
    have x4 : c * n * b = c * b * n := by rw [Int.mul_assoc, Int.mul_comm n, ← Int.mul_assoc]
    omega
  exact Int.lt_of_mul_lt_mul_right e4 (by omega)
/-- Fewer than the part of all lie ahead of the place. -/
theorem pl_ahead {a b n : Int} (wa : Word a) (wb : Word b) (wn : Word n) (h : gdB a b = true) (hn : ¬ n = 0) (ht : ¬ plV a b n = 1) : fewB (plV a b n - 1) n a b = true := by
  obtain ⟨hb, hab⟩ := gd_iff.1 h
  obtain ⟨p1, p2, p3, p4⟩ := pl_spec wa wb wn h hn
  rw [few_c hn hb]
  apply decide_eq_true
  rcases p4 with p4 | p4
  · omega
  · exact p4
theorem pl_upto {a b n : Int} (wa : Word a) (wb : Word b) (wn : Word n) (h : gdB a b = true) (hn : ¬ n = 0) : fewB (plV a b n) n a b = false := by
  obtain ⟨hb, hab⟩ := gd_iff.1 h
  obtain ⟨p1, p2, p3, p4⟩ := pl_spec wa wb wn h hn
  rw [few_c hn hb]
  apply decide_eq_false
  omega
/-- The same part in its least numbers asks for the same place. -/
theorem cl_least {a b n g : Int} (wa : Word a) (wb : Word b) (wn : Word n) (hg : g = gcdI a b) (h : gdB a b = true) : gdB (a / g) (b / g) = true ∧ plV (a / g) (b / g) n = plV a b n ∧ plE (a / g) (b / g) n = plE a b n := by
  obtain ⟨hb, hab⟩ := gd_iff.1 h
  have hg0 : ¬ g = 0 := by
    intro e; rw [hg] at e
    exact hb ((gcd_none wa.1 wb.1).1 e).2
  have gw := gcd_word wa wb
  rw [← hg] at gw
  have gp : 0 < g := by have := gw.1; omega
  have e1 := (div_exact hg wa.1 hg0).1
  have e2 := (div_exact2 hg wb.1 hg0).1
  have w1 : Word (a / g) := ⟨Int.ediv_nonneg wa.1 gw.1, by have := Int.ediv_le_self g wa.1; have := wa.2; omega⟩
  have w2 : Word (b / g) := ⟨Int.ediv_nonneg wb.1 gw.1, by have := Int.ediv_le_self g wb.1; have := wb.2; omega⟩
  have hG : gdB (a / g) (b / g) = true := by
    refine gd_iff.2 ⟨?_, Int.ediv_le_ediv gp hab⟩
    intro e; rw [e] at e2; omega
  refine ⟨hG, ?_, ?_⟩
  · by_cases hn : n = 0
    · subst hn; rw [(pl_none hG).1, (pl_none h).1]
    · have c1 := cl_spec wa wb wn h
      have c2 := cl_spec w1 w2 wn hG
      have E : clQ (a / g * n) (b / g) = clQ (a * n) b := by
        obtain ⟨x1, x2, x3, x4⟩ := c1
        obtain ⟨y1, y2, y3, y4⟩ := c2
        generalize clQ (a / g * n) (b / g) = u at *
        generalize clQ (a * n) b = t at *
        have f1 : a / g * n * g = a * n := by rw [Int.mul_assoc, Int.mul_comm n, ← Int.mul_assoc, e1]
        have f2 : u * (b / g) * g = u * b := by rw [Int.mul_assoc, e2]
        have f3 : (u - 1) * (b / g) * g = (u - 1) * b := by rw [Int.mul_assoc, e2]
        have z1 := Int.mul_le_mul_of_nonneg_right y1 (show 0 ≤ g by omega)
        have z2 := Int.mul_lt_mul_of_pos_right y2 gp
        rw [f1, f2] at z1
        rw [f1, f3] at z2
        have bp : 0 < b := by have := wb.1; omega
        have k1 : u - 1 < t := Int.lt_of_mul_lt_mul_right (show (u - 1) * b < t * b by omega) (by omega)
        have k2 : t - 1 < u := Int.lt_of_mul_lt_mul_right (show (t - 1) * b < u * b by omega) (by omega)
        omega
      rw [(pl_good hG hn).1, (pl_good h hn).1, E]
  · unfold plE; rw [hG, h]

theorem ret_place {x y a b : Int} (h : a = x) (h' : b = y) : Ending.returned (.tuple #[.int .u64 a, .int .i64 b]) = .returned (.tuple #[.int .u64 x, .int .i64 y]) := by rw [h, h']

set_option maxHeartbeats 1000000 in
theorem place_any (a b n : Int) (wa : Word a) (wb : Word b) (wn : Word n) (w : World) :
    Calls Tryz.prog 34 #[.agg #[.int .u64 a, .int .u64 b], .int .u64 n] w fun e w' =>
      e = .returned (.tuple #[.int .u64 (plV a b n), .int .i64 (plE a b n)]) ∧ Below w.heap.size w w' := by
  cases hg : gdB a b with
  | false =>
    have E := Lib.hid (pl_bad (n := n) hg)
    have G := Lib.hid hg
    clear hg
    go_enter Tryz.func34, Tryz.ntmps34
    go_wp2_with fail
    refine (good_any a b wa wb _).mono ?_
    rw [G.out]
    rintro e wA ⟨rfl, hbA⟩
    go_wp2_with fail
    go_ret2
    exact ⟨ret_place E.out.1.symm E.out.2.symm, ((Below.refl _ _).alloc (Nat.le_refl _) _).trans (hbA.mono (by simp))⟩
  | true =>
    by_cases hn : n = 0
    · subst hn
      have E := Lib.hid (pl_none hg)
      have G := Lib.hid hg
      clear hg
      go_enter Tryz.func34, Tryz.ntmps34
      go_wp2_with fail
      refine (good_any a b wa wb _).mono ?_
      rw [G.out]
      rintro e wA ⟨rfl, hbA⟩
      go_wp2_with fail
      go_ret2
      exact ⟨ret_place E.out.1.symm E.out.2.symm, ((Below.refl _ _).alloc (Nat.le_refl _) _).trans (hbA.mono (by simp))⟩
    · have E := Lib.hid (pl_good hg hn)
      have hn0 : (n == 0) = false := by simp [hn]
      have G := Lib.hid hg
      have c0 := (cl_spec wa wb wn hg).2.2.1
      clear hg hn
      go_enter Tryz.func34, Tryz.ntmps34
      go_wp2_with fail
      have c1 : (w.alloc (.cells #[.int .u64 a, .int .u64 b] 27)).cell? ⟨w.heap.size, 0, none⟩ = some (.int .u64 a) := by go_simp
      have c2 : (w.alloc (.cells #[.int .u64 a, .int .u64 b] 27)).cell? ⟨w.heap.size, 1, none⟩ = some (.int .u64 b) := by go_simp
      refine (good_any a b wa wb _).mono ?_
      rw [G.out]
      rintro e wA ⟨rfl, hbA⟩
      have d1 := cell_later hbA c1
      have d2 := cell_later hbA c2
      have hBA := ((Below.refl _ _).alloc (Nat.le_refl _) _).trans (hbA.mono (by simp))
      clear c1 c2 hbA
      go_wp2_with fail
      refine (ceil_any a n b wa wn wb _).mono ?_
      rintro e wB ⟨rfl, hbB⟩
      generalize clQ (a * n) b = c at *
      go_wp2_with fail
      go_ret2
      refine ⟨ret_place ?_ E.out.2.symm, hBA.trans (hbB.mono hBA.size)⟩
      rw [E.out.1]
      split <;> omega

set_option maxHeartbeats 1000000 in
theorem rplace_any (a b n : Int) (wa : Word a) (wb : Word b) (wn : Word n) (w : World) :
    Calls Tryz.prog 22 #[.agg #[.int .u64 a, .int .u64 b], .int .u64 n] w fun e w' =>
      e = .returned (.tuple #[.int .u64 (plV a b n), .int .i64 (plE a b n)]) ∧ Below w.heap.size w w' := by
  cases hg : gdB a b with
  | false =>
    have E := Lib.hid (pl_bad (n := n) hg)
    have G := Lib.hid hg
    clear hg
    go_enter Tryz.func22, Tryz.ntmps22
    go_wp2_with fail
    refine (rgood_any a b wa wb _).mono ?_
    rw [G.out]
    rintro e wA ⟨rfl, hbA⟩
    go_wp2_with fail
    go_ret2
    exact ⟨ret_place E.out.1.symm E.out.2.symm, ((Below.refl _ _).alloc (Nat.le_refl _) _).trans (hbA.mono (by simp))⟩
  | true =>
    by_cases hn : n = 0
    · subst hn
      have E := Lib.hid (pl_none hg)
      have G := Lib.hid hg
      clear hg
      go_enter Tryz.func22, Tryz.ntmps22
      go_wp2_with fail
      refine (rgood_any a b wa wb _).mono ?_
      rw [G.out]
      rintro e wA ⟨rfl, hbA⟩
      go_wp2_with fail
      go_ret2
      exact ⟨ret_place E.out.1.symm E.out.2.symm, ((Below.refl _ _).alloc (Nat.le_refl _) _).trans (hbA.mono (by simp))⟩
    · have E := Lib.hid (pl_good hg hn)
      have hn0 : (n == 0) = false := by simp [hn]
      have G := Lib.hid hg
      have c0 := (cl_spec wa wb wn hg).2.2.1
      clear hg hn
      go_enter Tryz.func22, Tryz.ntmps22
      go_wp2_with fail
      have c1 : (w.alloc (.cells #[.int .u64 a, .int .u64 b] 27)).cell? ⟨w.heap.size, 0, none⟩ = some (.int .u64 a) := by go_simp
      have c2 : (w.alloc (.cells #[.int .u64 a, .int .u64 b] 27)).cell? ⟨w.heap.size, 1, none⟩ = some (.int .u64 b) := by go_simp
      refine (rgood_any a b wa wb _).mono ?_
      rw [G.out]
      rintro e wA ⟨rfl, hbA⟩
      have d1 := cell_later hbA c1
      have d2 := cell_later hbA c2
      have hBA := ((Below.refl _ _).alloc (Nat.le_refl _) _).trans (hbA.mono (by simp))
      clear c1 c2 hbA
      go_wp2_with fail
      refine (rceil_any a n b wa wn wb _).mono ?_
      rintro e wB ⟨rfl, hbB⟩
      generalize clQ (a * n) b = c at *
      by_cases hc : c = 0
      · subst hc
        go_wp2_with fail
        go_ret2
        exact ⟨ret_place (by rw [E.out.1]; rfl) E.out.2.symm, hBA.trans (hbB.mono hBA.size)⟩
      · have hc0 : (c == 0) = false := by simp [hc]
        go_wp2_with fail
        go_ret2
        exact ⟨ret_place (by rw [E.out.1, if_neg (by omega)]) E.out.2.symm, hBA.trans (hbB.mono hBA.size)⟩
end Go.Proofs.YthjcdbnjmpjikaaGreat

/-
  The reference of layer 17: Rank, Quantile.
-/
namespace Go.Proofs.YthjcdbnjmpjikaaGreat
set_option linter.unusedVariables false
set_option linter.unusedSimpArgs false
open Go.RowKit

theorem where_snoc {L : List PairV} {i : Nat} {p : PairV} (f : Int → Bool) (h : L[i]? = some p) : whereP f (L.take (i + 1)) = whereP f (L.take i) + if f p.1 = true then p.2 else 0 := by
  rw [take_snocP h, where_app, where_cons, where_nil, Int.add_zero]
theorem where_part {L : List PairV} (f : Int → Bool) (h : ∀ p, p ∈ L → 0 ≤ p.2) (i : Nat) : 0 ≤ whereP f (L.take i) ∧ whereP f (L.take i) ≤ sumP L := by
  have h' : ∀ p, p ∈ L.take i → 0 ≤ p.2 := fun p hp => h p (List.mem_of_mem_take hp)
  exact ⟨where_pos h', Int.le_trans (where_sum h') (sumP_take i h).2⟩
theorem RowG.pos {b : Nat} {L : List PairV} (h : RowG b L) : ∀ p, p ∈ L → 0 ≤ p.2 := fun p hp => by have := h.good.1 p hp; omega
theorem lod_bd {b : Nat} (hb : b ≤ 24) {v : Int} (h : nodeD b v) : 0 ≤ loD b v ∧ loD b v ≤ 16777216 ∧ 0 ≤ hiD b v ∧ hiD b v ≤ 16777216 := by
  obtain ⟨n, rfl, n1, n2⟩ := node_nat h
  obtain ⟨a1, a2, a3⟩ := range_in n1 n2
  have hp := (pow_bdD hb).2
  have e4 : 2 ^ (b + 1) = 2 * 2 ^ b := by rw [Nat.pow_succ]; omega
  have e3 : ((2 ^ b : Nat) : Int) = 2 ^ b := by rw [Int.natCast_pow]; rfl
  unfold loD hiD
  simp only [Int.toNat_natCast]
  omega
/-- The reference's Range of a node that is one. -/
theorem rrange_node (W : World) {b : Nat} (hb : b ≤ 24) {v : Int} (h : nodeD b v) :
    Calls Tryz.prog 38 #[.int .i64 b, .int .i64 v] W fun e w' => e = .returned (.tuple #[.int .i64 (loD b v), .int .i64 (hiD b v)]) ∧ Below W.heap.size W w' := by
  obtain ⟨n, rfl, n1, n2⟩ := node_nat h
  exact rrange_any W b n hb n1 n2 _ _ rfl rfl
theorem rbefore_node (W : World) {b : Nat} (hb : b ≤ 24) {u v : Int} (hu : nodeD b u) (hv : nodeD b v) :
    Calls Tryz.prog 37 #[.int .i64 b, .int .i64 u, .int .i64 v] W fun e w' => e = .returned (.bool (befD b u v)) ∧ Below W.heap.size W w' := by
  obtain ⟨n, rfl, n1, n2⟩ := node_nat hu
  obtain ⟨m, rfl, m1, m2⟩ := node_nat hv
  exact rbefore_any W b n m hb n1 n2 m1 m2 _ rfl

set_option maxRecDepth 100000 in
set_option maxHeartbeats 4000000 in
theorem rrank17_any (w : World) (M b k : Nat) (v : Value) (L : List PairV) (x n1 n2 : Int) (h : RefDg w M b k v L) (hb : b ≤ 24) (hL : RowG b L) (hl : L.length ≤ 900) (hx : I64 x)
    (hn1 : whereP (fun v => decide (hiD b v ≤ x)) L = n1) (hn2 : whereP (fun v => decide (loD b v ≤ x)) L = n2) :
    Calls Tryz.prog 14 #[.pointer (some ⟨M, 0, none⟩), .int .i64 x] w fun e w' => e = .returned (.tuple #[.int .u64 n1, .int .u64 n2]) ∧ Below w.heap.size w w' := by
  obtain ⟨A, cap, rfl, hP⟩ := h.row (hL.ok hb)
  have HI := Lib.hid hP
  have HN1 := Lib.hid hn1
  have HN2 := Lib.hid hn2
  have HLL := Lib.hid hL
  have HOK := Lib.hid (hL.ok hb)
  have hsum := hL.sum
  have HP1 := Lib.hid (where_part (fun v => decide (hiD b v ≤ x)) hL.pos)
  have HP2 := Lib.hid (where_part (fun v => decide (loD b v ≤ x)) hL.pos)
  obtain ⟨T, hT⟩ : ∃ T, sumP L = T := ⟨_, rfl⟩
  rw [hT] at hsum HP1 HP2
  have hc2 := h.c2
  have HC0 := Lib.hid h.c0
  obtain ⟨ln, hln⟩ : ∃ ln : Nat, L.length = ln := ⟨_, rfl⟩
  rw [hln] at hl hc2
  have HLN := Lib.hid hln
  obtain ⟨x0, x1⟩ := hx
  clear h hP hn1 hn2 hL hT hln
  go_enter Tryz.func14, Tryz.ntmps14
  go_wp2_with fail
  go_loopg [6, 7, 17] ln (fun g a c j wr => ∃ (i : Nat) (m1 m2 : Int), i ≤ ln ∧ g = ln - i ∧ j = .int .i64 i ∧ a = .int .u64 m1 ∧ c = .int .u64 m2 ∧ m1 = whereP (fun v => decide (hiD b v ≤ x)) (L.take i) ∧ m2 = whereP (fun v => decide (loD b v ≤ x)) (L.take i) ∧ Below w.heap.size w wr)
  case atStart => exact ⟨0, 0, 0, Nat.zero_le _, rfl, rfl, rfl, rfl, rfl, rfl, Below.refl _ _⟩
  case round =>
    obtain ⟨i, m1, m2, hi, rfl, rfl, rfl, rfl, hm1, hm2, hb2⟩ := hrel
    have HM1 := Lib.hid hm1
    have HM2 := Lib.hid hm2
    by_cases hlt : i < ln
    · have kk : (i : Int) < ln := by omega
      have hxk : L[i]? = some (L[i]'(by rw [HLN.out]; exact hlt)) := List.getElem?_eq_getElem _
      generalize hit : L[i]'(by rw [HLN.out]; exact hlt) = p at *
      obtain ⟨px, pc⟩ := p
      obtain ⟨b0, off, rfl, hbl, c0, c1⟩ := (HI.out.call hb2).at_ i _ hxk
      have hmem := List.mem_of_getElem? hxk
      have hnd : nodeD b px := HLL.out.node _ hmem
      have hbd := lod_bd hb hnd
      have S1 := Lib.hid (where_snoc (fun v => decide (hiD b v ≤ x)) hxk)
      have S2 := Lib.hid (where_snoc (fun v => decide (loD b v ≤ x)) hxk)
      have q1 := HP1.out (i + 1)
      have q2 := HP2.out (i + 1)
      have q3 := HP1.out i
      have q4 := HP2.out i
      rw [S1.out] at q1
      rw [S2.out] at q2
      rw [← hm1] at q1 q3
      rw [← hm2] at q2 q4
      obtain ⟨⟨o1, o2⟩, o3, o4⟩ := HOK.out _ hmem
      have HRN := Lib.hid (fun W => rrange_node W hb hnd)
      obtain ⟨lo, hlo⟩ : ∃ lo, loD b px = lo := ⟨_, rfl⟩
      obtain ⟨hi', hhi⟩ : ∃ hi', hiD b px = hi' := ⟨_, rfl⟩
      simp only [decide_eq_true_eq] at c0 c1 o1 o2 o3 o4 q1 q2 S1 S2
      rw [hlo, hhi] at HRN hbd
      rw [hhi] at q1 S1
      rw [hlo] at q2 S2
      have hbs := hb2.size
      have HB3 := Lib.hid ((hb2.alloc hbs (.cells #[.int .i64 px, .int .u64 pc] 61)).drew)
      have HS0 : Hid ((wr.alloc (.cells #[.int .i64 px, .int .u64 pc] 61)).drew.cell? ⟨M, 0, none⟩ = some (.int .i64 b) ∧ (wr.alloc (.cells #[.int .i64 px, .int .u64 pc] 61)).drew.cell? ⟨wr.heap.size, 0, none⟩ = some (.int .i64 px) ∧ (wr.alloc (.cells #[.int .i64 px, .int .u64 pc] 61)).drew.cell? ⟨wr.heap.size, 1, none⟩ = some (.int .u64 pc) ∧ Below w.heap.size w (wr.alloc (.cells #[.int .i64 px, .int .u64 pc] 61)).drew) := Lib.hid ⟨cell_later HB3.out HC0.out, by go_simp, by go_simp, HB3.out⟩
      have HST := Lib.hid (fun (W W' : World) (h : W.cell? ⟨M, 0, none⟩ = some (.int .i64 b) ∧ W.cell? ⟨wr.heap.size, 0, none⟩ = some (.int .i64 px) ∧ W.cell? ⟨wr.heap.size, 1, none⟩ = some (.int .u64 pc) ∧ Below w.heap.size w W) (hb : Below W.heap.size W W') => (⟨cell_later hb h.1, cell_later hb h.2.1, cell_later hb h.2.2.1, h.2.2.2.trans (hb.mono h.2.2.2.size)⟩ : W'.cell? ⟨M, 0, none⟩ = some (.int .i64 b) ∧ W'.cell? ⟨wr.heap.size, 0, none⟩ = some (.int .i64 px) ∧ W'.cell? ⟨wr.heap.size, 1, none⟩ = some (.int .u64 pc) ∧ Below w.heap.size w W'))
      clear hxk hit hmem hnd hm1 hm2 hlo hhi hb2 hbs
      have HC : Hid ((hi' ≤ x ∧ lo ≤ x) ∨ (hi' ≤ x ∧ ¬ lo ≤ x) ∨ (¬ hi' ≤ x ∧ lo ≤ x) ∨ (¬ hi' ≤ x ∧ ¬ lo ≤ x)) := Lib.hid (by omega)
      go_wp2_with fail
      go_region_held3 (fun w' => w'.cell? ⟨M, 0, none⟩ = some (.int .i64 b) ∧ w'.cell? ⟨wr.heap.size, 0, none⟩ = some (.int .i64 px) ∧ w'.cell? ⟨wr.heap.size, 1, none⟩ = some (.int .u64 pc) ∧ Below w.heap.size w w')
        (first | exact HS0.out | exact HST.out _ _ (by assumption) hbA | assumption)
        ((go_at_call 38; with_reducible refine (HRN.out _).mono ?_; rintro e wA ⟨rfl, hbA⟩))
      rename_i hHeld
      obtain ⟨_, _, e1, b5⟩ := hHeld
      rcases HC.out with ⟨k1, k2⟩ | ⟨k1, k2⟩ | ⟨k1, k2⟩ | ⟨k1, k2⟩
      all_goals
        first
        | rw [if_pos k1] at q1 S1
        | rw [if_neg (by omega)] at q1 S1
        first
        | rw [if_pos k2] at q2 S2
        | rw [if_neg (by omega)] at q2 S2
        go_wp2_with fail
        go_roundg (ln - (i + 1))
        case measure => omega
        case rel => exact ⟨i + 1, _, _, by omega, rfl, by go_num, rfl, rfl, by rw [S1.out, HM1.out]; try first | rfl | omega, by rw [S2.out, HM2.out]; try first | rfl | omega, b5⟩
    · obtain rfl : i = ln := by omega
      have kk : ¬ (i : Int) < i := by omega
      have e := List.take_of_length_le (l := L) (i := i) (by rw [HLN.out]; exact Nat.le_refl _)
      rw [e] at hm1 hm2
      have HM1 := Lib.hid hm1
      have HM2 := Lib.hid hm2
      clear hm1 hm2 e
      go_wp2_with fail
      go_ret2
      exact ⟨by rw [← HN1.out, ← HN2.out, ← HM1.out, ← HM2.out]; rfl, hb2⟩
end Go.Proofs.YthjcdbnjmpjikaaGreat

/-
  The reference of layer 17: Quantile.
-/
namespace Go.Proofs.YthjcdbnjmpjikaaGreat
set_option linter.unusedVariables false
set_option linter.unusedSimpArgs false
open Go.RowKit

/-- Is it the node that a place asks for? -/
def asksD (b : Nat) (L : List PairV) (t : Int) (p : PairV) : Bool := decide (aheadD b L p.1 < t) && decide (t ≤ aheadD b L p.1 + p.2)
def findD (b : Nat) (L : List PairV) (t : Int) : Int := match L.find? (asksD b L t) with | none => 0 | some p => hiD b p.1
/-- What Quantile answers, and the error's number. -/
def quanG (b : Nat) (L : List PairV) (pa pb : Int) : Int × Int := if plE pa pb (sumP L) = 0 then (findD b L (plV pa pb (sumP L)), 0) else (0, plE pa pb (sumP L))
theorem find_atG {α : Type} {f : α → Bool} : ∀ {L : List α} {i : Nat} {p : α}, (∀ j q, j < i → L[j]? = some q → f q = false) → L[i]? = some p → f p = true → L.find? f = some p
  | [], i, p, _, h, _ => by simp at h
  | a :: r, 0, p, _, h, hf => by
    simp at h; subst h
    rw [List.find?_cons_of_pos hf]
  | a :: r, i + 1, p, hn, h, hf => by
    have h0 := hn 0 a (by omega) rfl
    rw [List.find?_cons_of_neg (by simp [h0])]
    exact find_atG (i := i) (fun j q hj hq => hn (j + 1) q (by omega) (by simpa using hq)) (by simpa using h) hf
theorem find_not {α : Type} {f : α → Bool} {L : List α} (h : ∀ j q, j < L.length → L[j]? = some q → f q = false) : L.find? f = none := by
  rw [List.find?_eq_none]
  intro p hp hf
  obtain ⟨j, hj⟩ := List.getElem?_of_mem hp
  have hl : j < L.length := by
    rcases Nat.lt_or_ge j L.length with c | c
    · exact c
    · rw [List.getElem?_eq_none c] at hj; cases hj
  rw [h j p hl hj] at hf; cases hf
theorem pl_pos (a b n : Int) : 0 ≤ plE a b n := by unfold plE; split; split <;> omega; omega

set_option maxRecDepth 100000 in
set_option maxHeartbeats 8000000 in
theorem rquan17_any (w : World) (M b k : Nat) (v : Value) (L : List PairV) (pa pb r c : Int) (wa : Word pa) (wb : Word pb) (h : RefDg w M b k v L) (hb : b ≤ 24) (hL : RowG b L) (hl : L.length ≤ 900) (he : quanG b L pa pb = (r, c)) :
    Calls Tryz.prog 12 #[.pointer (some ⟨M, 0, none⟩), .agg #[.int .u64 pa, .int .u64 pb]] w fun e w' => e = .returned (.tuple #[.int .i64 r, .int .i64 c]) ∧ Below w.heap.size w w' := by
  obtain ⟨A, cap, rfl, hP⟩ := h.row (hL.ok hb)
  have HI := Lib.hid hP
  have HLL := Lib.hid hL
  have HOK := Lib.hid (hL.ok hb)
  have hsum := hL.sum
  have hs0 := sumP_pos hL.pos
  have HPA := Lib.hid (fun px => where_part (fun u => befD b u px) hL.pos)
  obtain ⟨T, hT⟩ : ∃ T, sumP L = T := ⟨_, rfl⟩
  have HTO := Lib.hid (fun W hW => rtotal_any W A cap L T hW (by omega) hT (by omega))
  rw [hT] at hsum hs0 HPA
  have HPL := Lib.hid (fun W => rplace_any pa pb T wa wb (by unfold Word; omega) W)
  have hwt := pl_word (n := T) wa wb (by unfold Word; omega)
  have HQ : Hid ((if plE pa pb T = 0 then (findD b L (plV pa pb T), 0) else (0, plE pa pb T)) = (r, c)) := Lib.hid (by rw [← he]; unfold quanG; rw [hT])
  have hc' := pl_pos pa pb T
  obtain ⟨t, ht⟩ : ∃ t, plV pa pb T = t := ⟨_, rfl⟩
  obtain ⟨ec, hec⟩ : ∃ ec, plE pa pb T = ec := ⟨_, rfl⟩
  rw [ht, hec] at HQ HPL
  rw [ht] at hwt
  rw [hec] at hc'
  have HC2 := Lib.hid h.c2
  have HC0 := Lib.hid h.c0
  obtain ⟨ln, hln⟩ : ∃ ln : Nat, L.length = ln := ⟨_, rfl⟩
  have HTO2 : Hid (∀ W, Pairs W A L → Calls Tryz.prog 26 #[.slice A ln cap] W fun e w' => e = .returned (.int .u64 T) ∧ Below W.heap.size W w') := Lib.hid fun W hW => by rw [← hln]; exact HTO.out W hW
  have HLN := Lib.hid hln
  rw [hln] at hl HC2
  have HBW := Lib.hid (((Below.refl w.heap.size w).alloc (Nat.le_refl _) (.cells #[.int .u64 pa, .int .u64 pb] 27)).drew)
  have HS0 : Hid ((w.alloc (.cells #[.int .u64 pa, .int .u64 pb] 27)).drew.cell? ⟨w.heap.size, 0, none⟩ = some (.int .u64 pa) ∧ (w.alloc (.cells #[.int .u64 pa, .int .u64 pb] 27)).drew.cell? ⟨w.heap.size, 1, none⟩ = some (.int .u64 pb) ∧ (w.alloc (.cells #[.int .u64 pa, .int .u64 pb] 27)).drew.cell? ⟨M, 2, none⟩ = some (.slice A ln cap) ∧ Below w.heap.size w (w.alloc (.cells #[.int .u64 pa, .int .u64 pb] 27)).drew) := Lib.hid ⟨by go_simp, by go_simp, cell_later HBW.out HC2.out, HBW.out⟩
  have HST := Lib.hid (fun (W W' : World) (h : W.cell? ⟨w.heap.size, 0, none⟩ = some (.int .u64 pa) ∧ W.cell? ⟨w.heap.size, 1, none⟩ = some (.int .u64 pb) ∧ W.cell? ⟨M, 2, none⟩ = some (.slice A ln cap) ∧ Below w.heap.size w W) (hb : Below W.heap.size W W') => (⟨cell_later hb h.1, cell_later hb h.2.1, cell_later hb h.2.2.1, h.2.2.2.trans (hb.mono h.2.2.2.size)⟩ : W'.cell? ⟨w.heap.size, 0, none⟩ = some (.int .u64 pa) ∧ W'.cell? ⟨w.heap.size, 1, none⟩ = some (.int .u64 pb) ∧ W'.cell? ⟨M, 2, none⟩ = some (.slice A ln cap) ∧ Below w.heap.size w W'))
  clear h hP hL he hT ht hec hln HTO hs0
  by_cases z : ec = 0
  case neg =>
    have he := HQ.out
    rw [if_neg z] at he
    obtain ⟨rfl, rfl⟩ : 0 = r ∧ ec = c := by simpa using he
    have zp : 0 < ec := by omega
    clear he HQ
    go_enter Tryz.func12, Tryz.ntmps12
    go_wp2_with fail
    go_region_held3 (fun w' => w'.cell? ⟨w.heap.size, 0, none⟩ = some (.int .u64 pa) ∧ w'.cell? ⟨w.heap.size, 1, none⟩ = some (.int .u64 pb) ∧ w'.cell? ⟨M, 2, none⟩ = some (.slice A ln cap) ∧ Below w.heap.size w w')
      (first | exact HS0.out | exact HST.out _ _ (by assumption) hbA | assumption)
      ((first
        | (go_at_call 26; with_reducible refine (HTO2.out _ (HI.out.call (And.right (And.right (And.right (by assumption)))))).mono ?_; rintro e wA ⟨rfl, hbA⟩)
        | (go_at_call 22; with_reducible refine (HPL.out _).mono ?_; rintro e wA ⟨rfl, hbA⟩)))
    all_goals
      rename_i hHeld
      obtain ⟨_, _, _, b3⟩ := hHeld
      go_wp2_with fail
      go_ret2
      exact ⟨rfl, b3⟩
  case pos =>
    subst z
    have he := HQ.out
    rw [if_pos rfl] at he
    obtain ⟨rfl, rfl⟩ : findD b L t = r ∧ 0 = c := by simpa using he
    obtain ⟨t0, t1⟩ := hwt
    clear he HQ hc'
    go_enter Tryz.func12, Tryz.ntmps12
    go_wp2_with fail
    go_region_held3 (fun w' => w'.cell? ⟨w.heap.size, 0, none⟩ = some (.int .u64 pa) ∧ w'.cell? ⟨w.heap.size, 1, none⟩ = some (.int .u64 pb) ∧ w'.cell? ⟨M, 2, none⟩ = some (.slice A ln cap) ∧ Below w.heap.size w w')
      (first | exact HS0.out | exact HST.out _ _ (by assumption) hbA | assumption)
      ((first
        | (go_at_call 26; with_reducible refine (HTO2.out _ (HI.out.call (And.right (And.right (And.right (by assumption)))))).mono ?_; rintro e wA ⟨rfl, hbA⟩)
        | (go_at_call 22; with_reducible refine (HPL.out _).mono ?_; rintro e wA ⟨rfl, hbA⟩)))
    rename_i hHeld
    obtain ⟨_, _, d2, b3⟩ := hHeld
    go_wp2_with fail
    go_loopg [33] ln (fun g j wr => ∃ (i : Nat), i ≤ ln ∧ g = ln - i ∧ j = .int .i64 i ∧ (∀ j q, j < i → L[j]? = some q → asksD b L t q = false) ∧ Below w.heap.size w wr)
    case atStart => exact ⟨0, Nat.zero_le _, rfl, rfl, fun j q hj => absurd hj (Nat.not_lt_zero _), b3⟩
    case round =>
      clear d2 b3
      obtain ⟨i, hi, rfl, rfl, hno, hb2⟩ := hrel
      obtain ⟨w5, hw5⟩ : ∃ w5, w5 = wr := ⟨_, rfl⟩
      subst hw5
      have HNO := Lib.hid hno
      clear hno
      by_cases hlt : i < ln
      · have kk : (i : Int) < ln := by omega
        have hxk : L[i]? = some (L[i]'(by rw [HLN.out]; exact hlt)) := List.getElem?_eq_getElem _
        generalize hit : L[i]'(by rw [HLN.out]; exact hlt) = p at *
        obtain ⟨px, pc⟩ := p
        obtain ⟨b0, off, rfl, hbl, c0, c1⟩ := (HI.out.call hb2).at_ i _ hxk
        have hmem := List.mem_of_getElem? hxk
        have hnd : nodeD b px := HLL.out.node _ hmem
        obtain ⟨⟨o1, o2⟩, o3, o4⟩ := HOK.out _ hmem
        have o9 : pc ≤ 9223372036854775807 := (HLL.out.good.1 _ hmem).2
        have o10 : 0 ≤ pc := o3
        simp only at c0 c1 o1 o2 o3 o4
        have HND := Lib.hid hnd
        have HXK := Lib.hid hxk
        have hbs := hb2.size
        have hnw : Below w5.heap.size w5 (w5.alloc (.cells #[.int .i64 px, .int .u64 pc] 61)) := (Below.refl _ _).alloc (Nat.le_refl _) _
        have d2 := cell_later (hb2.trans (hnw.mono hbs)) HC2.out
        have HB6 := Lib.hid (hb2.trans (hnw.mono hbs))
        have p0 : (w5.alloc (.cells #[.int .i64 px, .int .u64 pc] 61)).cell? ⟨w5.heap.size, 0, none⟩ = some (.int .i64 px) := by go_simp
        have p1 : (w5.alloc (.cells #[.int .i64 px, .int .u64 pc] 61)).cell? ⟨w5.heap.size, 1, none⟩ = some (.int .u64 pc) := by go_simp
        obtain ⟨w6, hw6⟩ : ∃ w6, (w5.alloc (.cells #[.int .i64 px, .int .u64 pc] 61)) = w6 := ⟨_, rfl⟩
        rw [hw6] at d2 HB6 p0 p1
        have HP0 := Lib.hid p0
        have HP1 := Lib.hid p1
        have HC26 := Lib.hid d2
        clear hxk hit hmem hnd hb2 hnw
        go_wp2_with fail
        go_loopg [10, 42] ln (fun g s j wr => ∃ (n : Nat) (m : Int), n ≤ ln ∧ g = ln - n ∧ j = .int .i64 n ∧ s = .int .u64 m ∧ m = whereP (fun u => befD b u px) (L.take n) ∧ Below w6.heap.size w6 wr)
        case atStart => exact ⟨0, 0, Nat.zero_le _, rfl, rfl, rfl, rfl, by first | exact Below.refl _ _ | (rw [hw6]; exact Below.refl _ _)⟩
        case round =>
          clear p0 p1 d2
          obtain ⟨n, m, hn, rfl, rfl, rfl, hm, hbr⟩ := hrel
          have HM := Lib.hid hm
          have HBR := Lib.hid hbr
          by_cases hlt2 : n < ln
          · have kk2 : (n : Int) < ln := by omega
            have hyk : L[n]? = some (L[n]'(by rw [HLN.out]; exact hlt2)) := List.getElem?_eq_getElem _
            generalize hit : L[n]'(by rw [HLN.out]; exact hlt2) = q at *
            obtain ⟨qx, qc⟩ := q
            obtain ⟨b9, off9, e9, hbl9, c0', c1'⟩ := (HI.out.call (HB6.out.trans (hbr.mono HB6.out.size))).at_ n _ hyk
            cases e9
            have hmem := List.mem_of_getElem? hyk
            have hnd : nodeD b qx := HLL.out.node _ hmem
            obtain ⟨⟨o5, o6⟩, o7, o8⟩ := HOK.out _ hmem
            simp only at c0' c1' o5 o6 o7 o8
            have HBF := Lib.hid (fun W => rbefore_node W hb hnd HND.out)
            have S1 := Lib.hid (where_snoc (fun u => befD b u px) hyk)
            have q1 := HPA.out px (n + 1)
            have q3 := HPA.out px n
            rw [S1.out] at q1
            rw [← hm] at q1 q3
            obtain ⟨bf, hbf⟩ : ∃ bf, befD b qx px = bf := ⟨_, rfl⟩
            simp only [hbf] at q1 S1
            rw [hbf] at HBF
            have hbs2 := hbr.size
            have HB3 := Lib.hid ((hbr.alloc hbs2 (.cells #[.int .i64 qx, .int .u64 qc] 61)).drew)
            have HS0 : Hid ((wr.alloc (.cells #[.int .i64 qx, .int .u64 qc] 61)).drew.cell? ⟨M, 0, none⟩ = some (.int .i64 b) ∧ (wr.alloc (.cells #[.int .i64 qx, .int .u64 qc] 61)).drew.cell? ⟨wr.heap.size, 0, none⟩ = some (.int .i64 qx) ∧ (wr.alloc (.cells #[.int .i64 qx, .int .u64 qc] 61)).drew.cell? ⟨wr.heap.size, 1, none⟩ = some (.int .u64 qc) ∧ (wr.alloc (.cells #[.int .i64 qx, .int .u64 qc] 61)).drew.cell? ⟨w5.heap.size, 0, none⟩ = some (.int .i64 px) ∧ Below w6.heap.size w6 (wr.alloc (.cells #[.int .i64 qx, .int .u64 qc] 61)).drew) := Lib.hid ⟨cell_later (HB6.out.trans (HB3.out.mono HB6.out.size)) HC0.out, by go_simp, by go_simp, cell_later HB3.out HP0.out, HB3.out⟩
            have HST := Lib.hid (fun (W W' : World) (h : W.cell? ⟨M, 0, none⟩ = some (.int .i64 b) ∧ W.cell? ⟨wr.heap.size, 0, none⟩ = some (.int .i64 qx) ∧ W.cell? ⟨wr.heap.size, 1, none⟩ = some (.int .u64 qc) ∧ W.cell? ⟨w5.heap.size, 0, none⟩ = some (.int .i64 px) ∧ Below w6.heap.size w6 W) (hb : Below W.heap.size W W') => (⟨cell_later hb h.1, cell_later hb h.2.1, cell_later hb h.2.2.1, cell_later hb h.2.2.2.1, h.2.2.2.2.trans (hb.mono h.2.2.2.2.size)⟩ : W'.cell? ⟨M, 0, none⟩ = some (.int .i64 b) ∧ W'.cell? ⟨wr.heap.size, 0, none⟩ = some (.int .i64 qx) ∧ W'.cell? ⟨wr.heap.size, 1, none⟩ = some (.int .u64 qc) ∧ W'.cell? ⟨w5.heap.size, 0, none⟩ = some (.int .i64 px) ∧ Below w6.heap.size w6 W'))
            clear hyk hit hmem hnd hm hbf hbr hbs2 HBR
            go_wp2_with fail
            go_region_held3 (fun w' => w'.cell? ⟨M, 0, none⟩ = some (.int .i64 b) ∧ w'.cell? ⟨wr.heap.size, 0, none⟩ = some (.int .i64 qx) ∧ w'.cell? ⟨wr.heap.size, 1, none⟩ = some (.int .u64 qc) ∧ w'.cell? ⟨w5.heap.size, 0, none⟩ = some (.int .i64 px) ∧ Below w6.heap.size w6 w')
              (first | exact HS0.out | exact HST.out _ _ (by assumption) hbA | assumption)
              ((go_at_call 37; with_reducible refine (HBF.out _).mono ?_; rintro e wA ⟨rfl, hbA⟩))
            rename_i hHeld
            obtain ⟨_, _, e1, _, b5⟩ := hHeld
            cases bf with
            | true =>
              simp only [if_true] at q1 S1
              go_wp2_with fail
              go_roundg (ln - (n + 1))
              case measure => omega
              case rel => exact ⟨n + 1, _, by omega, rfl, by go_num, rfl, by rw [S1.out, HM.out], b5⟩
            | false =>
              simp only [Bool.false_eq_true, if_false, Int.add_zero] at q1 S1
              go_wp2_with fail
              go_roundg (ln - (n + 1))
              case measure => omega
              case rel => exact ⟨n + 1, _, by omega, rfl, by go_num, rfl, by rw [S1.out, HM.out], b5⟩
          · obtain rfl : n = ln := by omega
            have kk2 : ¬ (n : Int) < n := by omega
            have e := List.take_of_length_le (l := L) (i := n) (by rw [HLN.out]; exact Nat.le_refl _)
            have q3 := HPA.out px n
            rw [← hm] at q3
            rw [e] at hm
            have HM := Lib.hid (show m = aheadD b L px from hm)
            have d1 := cell_later hbr HP1.out
            clear hm e
            have HBT := Lib.hid (HB6.out.trans (hbr.mono HB6.out.size))
            have HC : Hid ((asksD b L t (px, pc) = true ∧ m < t ∧ t ≤ m + pc) ∨ (asksD b L t (px, pc) = false ∧ ¬ m < t) ∨ (asksD b L t (px, pc) = false ∧ m < t ∧ ¬ t ≤ m + pc)) := Lib.hid (by
              unfold asksD
              rw [← HM.out]
              by_cases k1 : m < t
              · by_cases k2 : t ≤ m + pc
                · exact Or.inl ⟨by rw [decide_eq_true k1, decide_eq_true k2]; rfl, k1, k2⟩
                · exact Or.inr (Or.inr ⟨by rw [decide_eq_false k2, Bool.and_false], k1, k2⟩)
              · exact Or.inr (Or.inl ⟨by rw [decide_eq_false k1, Bool.false_and], k1⟩))
            have d0 := cell_later hbr HP0.out
            have um : IntKind.u64.wrap (m + pc) = m + pc := by rw [IntKind.wrap_u64]; omega
            rcases HC.out with ⟨ha, k1, k2⟩ | ⟨ha, k1⟩ | ⟨ha, k1, k2⟩
            · have HF : Hid (findD b L t = hiD b px) := Lib.hid (by unfold findD; rw [find_atG (fun j q hj hq => HNO.out j q hj hq) HXK.out ha])
              have HRN := Lib.hid (fun W => rrange_node W hb HND.out)
              obtain ⟨hi', hhi⟩ : ∃ hi', hiD b px = hi' := ⟨_, rfl⟩
              rw [hhi] at HRN HF
              have HS0 : Hid (wr.drew.cell? ⟨M, 0, none⟩ = some (.int .i64 b) ∧ wr.drew.cell? ⟨w5.heap.size, 0, none⟩ = some (.int .i64 px) ∧ Below w.heap.size w wr.drew) := Lib.hid ⟨cell_later HBT.out.drew HC0.out, cell_later hbr.drew HP0.out, HBT.out.drew⟩
              have HST := Lib.hid (fun (W W' : World) (h : W.cell? ⟨M, 0, none⟩ = some (.int .i64 b) ∧ W.cell? ⟨w5.heap.size, 0, none⟩ = some (.int .i64 px) ∧ Below w.heap.size w W) (hb : Below W.heap.size W W') => (⟨cell_later hb h.1, cell_later hb h.2.1, h.2.2.trans (hb.mono h.2.2.size)⟩ : W'.cell? ⟨M, 0, none⟩ = some (.int .i64 b) ∧ W'.cell? ⟨w5.heap.size, 0, none⟩ = some (.int .i64 px) ∧ Below w.heap.size w W'))
              clear ha hhi hbr HBR HC
              go_wp2_with fail
              go_region_held3 (fun w' => w'.cell? ⟨M, 0, none⟩ = some (.int .i64 b) ∧ w'.cell? ⟨w5.heap.size, 0, none⟩ = some (.int .i64 px) ∧ Below w.heap.size w w')
                (first | exact HS0.out | exact HST.out _ _ (by assumption) hbA | assumption)
                ((go_at_call 38; with_reducible refine (HRN.out _).mono ?_; rintro e wA ⟨rfl, hbA⟩))
              rename_i hHeld
              obtain ⟨_, _, b9⟩ := hHeld
              go_wp2_with fail
              go_ret2
              exact ⟨by rw [HF.out]; rfl, b9⟩
            · have HA := Lib.hid ha
              clear ha hbr HBR HC
              go_wp2_with fail
              go_roundg (n - (i + 1))
              case measure => omega
              case rel =>
                refine ⟨i + 1, by omega, rfl, by go_num, fun j q hj hq => ?_, HBT.out⟩
                rcases Nat.lt_or_ge j i with c | c
                · exact HNO.out j q c hq
                · obtain rfl : j = i := by omega
                  have := HXK.out.symm.trans hq
                  cases this
                  exact HA.out
            · have HA := Lib.hid ha
              clear ha hbr HBR HC
              go_wp2_with fail
              go_roundg (n - (i + 1))
              case measure => omega
              case rel =>
                refine ⟨i + 1, by omega, rfl, by go_num, fun j q hj hq => ?_, HBT.out⟩
                rcases Nat.lt_or_ge j i with c | c
                · exact HNO.out j q c hq
                · obtain rfl : j = i := by omega
                  have := HXK.out.symm.trans hq
                  cases this
                  exact HA.out
      · obtain rfl : i = ln := by omega
        have kk : ¬ (i : Int) < i := by omega
        have HF : Hid (findD b L t = 0) := Lib.hid (by unfold findD; rw [find_not (fun j q hj hq => HNO.out j q (by rw [HLN.out] at hj; exact hj) hq)])
        go_wp2_with fail
        go_ret2
        exact ⟨by rw [HF.out]; rfl, hb2⟩
end Go.Proofs.YthjcdbnjmpjikaaGreat

/-
  The ends of values, and how many lie up to one: mathematics, and the reference's Ends and Up.
-/
namespace Go.Proofs.YthjcdbnjmpjikaaGreat
set_option linter.unusedVariables false
set_option linter.unusedSimpArgs false
open Go.RowKit

/-- The least and the greatest of values, from one on. -/
def loFD (x : Int) (A : List PairV) : Int := A.foldl (fun a v => min a v.1) x
def hiFD (x : Int) (A : List PairV) : Int := A.foldl (fun a v => max a v.1) x
theorem lof_snocD (x : Int) (A : List PairV) (v : PairV) : loFD x (A ++ [v]) = min (loFD x A) v.1 := by unfold loFD; rw [List.foldl_append]; rfl
theorem hif_snocD (x : Int) (A : List PairV) (v : PairV) : hiFD x (A ++ [v]) = max (hiFD x A) v.1 := by unfold hiFD; rw [List.foldl_append]; rfl
theorem lof_appD (x : Int) (A B : List PairV) : loFD x (A ++ B) = loFD (loFD x A) B := by unfold loFD; rw [List.foldl_append]
theorem hif_appD (x : Int) (A B : List PairV) : hiFD x (A ++ B) = hiFD (hiFD x A) B := by unfold hiFD; rw [List.foldl_append]
theorem lof_leD : ∀ (A : List PairV) (x : Int), loFD x A ≤ x ∧ ∀ v, v ∈ A → loFD x A ≤ v.1 := by
  intro A
  induction A with
  | nil => intro x; exact ⟨Int.le_refl _, fun v h => (by cases h)⟩
  | cons a r ih =>
    intro x
    obtain ⟨h1, h2⟩ := ih (min x a.1)
    have e : loFD x (a :: r) = loFD (min x a.1) r := rfl
    rw [e]
    refine ⟨by omega, fun v hv => ?_⟩
    rcases List.mem_cons.1 hv with rfl | hv
    · omega
    · exact h2 v hv
theorem hif_geD : ∀ (A : List PairV) (x : Int), x ≤ hiFD x A ∧ ∀ v, v ∈ A → v.1 ≤ hiFD x A := by
  intro A
  induction A with
  | nil => intro x; exact ⟨Int.le_refl _, fun v h => (by cases h)⟩
  | cons a r ih =>
    intro x
    obtain ⟨h1, h2⟩ := ih (max x a.1)
    have e : hiFD x (a :: r) = hiFD (max x a.1) r := rfl
    rw [e]
    refine ⟨by omega, fun v hv => ?_⟩
    rcases List.mem_cons.1 hv with rfl | hv
    · omega
    · exact h2 v hv
theorem lof_memD : ∀ (A : List PairV) (x : Int), loFD x A = x ∨ ∃ v, v ∈ A ∧ v.1 = loFD x A := by
  intro A
  induction A with
  | nil => intro x; exact Or.inl rfl
  | cons a r ih =>
    intro x
    have e : loFD x (a :: r) = loFD (min x a.1) r := rfl
    rw [e]
    rcases ih (min x a.1) with h | ⟨v, hv, h⟩
    · by_cases c : x ≤ a.1
      · exact Or.inl (by omega)
      · exact Or.inr ⟨a, by simp, by omega⟩
    · exact Or.inr ⟨v, by simp [hv], h⟩
theorem hif_memD : ∀ (A : List PairV) (x : Int), hiFD x A = x ∨ ∃ v, v ∈ A ∧ v.1 = hiFD x A := by
  intro A
  induction A with
  | nil => intro x; exact Or.inl rfl
  | cons a r ih =>
    intro x
    have e : hiFD x (a :: r) = hiFD (max x a.1) r := rfl
    rw [e]
    rcases ih (max x a.1) with h | ⟨v, hv, h⟩
    · by_cases c : a.1 ≤ x
      · exact Or.inl (by omega)
      · exact Or.inr ⟨a, by simp, by omega⟩
    · exact Or.inr ⟨v, by simp [hv], h⟩
/-- The ends of all values: noughts, if there are none. -/
def loVD (A : List PairV) : Int := match A with | [] => 0 | v :: r => loFD v.1 (v :: r)
def hiVD (A : List PairV) : Int := match A with | [] => 0 | v :: r => hiFD v.1 (v :: r)
theorem lov_ofD {A : List PairV} {x : Int} (h : ∃ v, v ∈ A ∧ v.1 = x) (hx : ∀ v, v ∈ A → x ≤ v.1) : loVD A = x := by
  obtain ⟨v, hv, e⟩ := h
  cases A with
  | nil => cases hv
  | cons a r =>
    show loFD a.1 (a :: r) = x
    have h1 := (lof_leD (a :: r) a.1).2 v hv
    rcases lof_memD (a :: r) a.1 with h | ⟨u, hu, h⟩
    · have := hx a (by simp); omega
    · have := hx u hu; omega
theorem hiv_ofD {A : List PairV} {x : Int} (h : ∃ v, v ∈ A ∧ v.1 = x) (hx : ∀ v, v ∈ A → v.1 ≤ x) : hiVD A = x := by
  obtain ⟨v, hv, e⟩ := h
  cases A with
  | nil => cases hv
  | cons a r =>
    show hiFD a.1 (a :: r) = x
    have h1 := (hif_geD (a :: r) a.1).2 v hv
    rcases hif_memD (a :: r) a.1 with h | ⟨u, hu, h⟩
    · have := hx a (by simp); omega
    · have := hx u hu; omega
theorem lov_factsD {A : List PairV} (h : A ≠ []) : (∃ v, v ∈ A ∧ v.1 = loVD A) ∧ ∀ v, v ∈ A → loVD A ≤ v.1 := by
  cases A with
  | nil => exact absurd rfl h
  | cons a r =>
    refine ⟨?_, (lof_leD (a :: r) a.1).2⟩
    rcases lof_memD (a :: r) a.1 with h | ⟨u, hu, h⟩
    · exact ⟨a, by simp, h.symm⟩
    · exact ⟨u, hu, h⟩
theorem hiv_factsD {A : List PairV} (h : A ≠ []) : (∃ v, v ∈ A ∧ v.1 = hiVD A) ∧ ∀ v, v ∈ A → v.1 ≤ hiVD A := by
  cases A with
  | nil => exact absurd rfl h
  | cons a r =>
    refine ⟨?_, (hif_geD (a :: r) a.1).2⟩
    rcases hif_memD (a :: r) a.1 with h | ⟨u, hu, h⟩
    · exact ⟨a, by simp, h.symm⟩
    · exact ⟨u, hu, h⟩
theorem ends_appD {A B : List PairV} (hA : A ≠ []) (hB : B ≠ []) : loVD (A ++ B) = min (loVD A) (loVD B) ∧ hiVD (A ++ B) = max (hiVD A) (hiVD B) := by
  obtain ⟨⟨a, ha, ea⟩, la⟩ := lov_factsD hA
  obtain ⟨⟨b, hb, eb⟩, lb⟩ := lov_factsD hB
  obtain ⟨⟨c, hc, ec⟩, hc'⟩ := hiv_factsD hA
  obtain ⟨⟨d, hd, ed⟩, hd'⟩ := hiv_factsD hB
  constructor
  · refine lov_ofD ?_ fun v hv => ?_
    · by_cases h : loVD A ≤ loVD B
      · exact ⟨a, by simp [ha], by omega⟩
      · exact ⟨b, by simp [hb], by omega⟩
    · rcases List.mem_append.1 hv with h | h
      · have := la v h; omega
      · have := lb v h; omega
  · refine hiv_ofD ?_ fun v hv => ?_
    · by_cases h : hiVD B ≤ hiVD A
      · exact ⟨c, by simp [hc], by omega⟩
      · exact ⟨d, by simp [hd], by omega⟩
    · rcases List.mem_append.1 hv with h | h
      · have := hc' v h; omega
      · have := hd' v h; omega
theorem ends_oneD (v : PairV) : loVD [v] = v.1 ∧ hiVD [v] = v.1 := by
  constructor
  · show min v.1 v.1 = v.1; omega
  · show max v.1 v.1 = v.1; omega
theorem ends_snocD {A : List PairV} (hA : A ≠ []) (v : PairV) : loVD (A ++ [v]) = min (loVD A) v.1 ∧ hiVD (A ++ [v]) = max (hiVD A) v.1 := by
  have h := ends_appD hA (B := [v]) (by simp)
  rw [(ends_oneD v).1, (ends_oneD v).2] at h
  exact h
/-- What Ends tells of values. -/
def endAD (A : List PairV) : Int × Int × Bool := if A = [] then (0, 0, false) else (loVD A, hiVD A, true)
theorem ret_endsD {a b x y : Int} {c : Bool} (h : a = x) (h' : b = y) : Ending.returned (.tuple #[.int .i64 a, .int .i64 b, .bool c]) = .returned (.tuple #[.int .i64 x, .int .i64 y, .bool c]) := by rw [h, h']
theorem lof_bdD {A : List PairV} (h : ∀ p, p ∈ A → okP p) {x : Int} (hx : I64 x) : I64 (loFD x A) := by
  rcases lof_memD A x with e | ⟨v, hv, e⟩
  · rw [e]; exact hx
  · rw [← e]; exact (h v hv).1
theorem hif_bdD {A : List PairV} (h : ∀ p, p ∈ A → okP p) {x : Int} (hx : I64 x) : I64 (hiFD x A) := by
  rcases hif_memD A x with e | ⟨v, hv, e⟩
  · rw [e]; exact hx
  · rw [← e]; exact (h v hv).1

set_option maxRecDepth 100000 in
set_option maxHeartbeats 1000000 in
theorem rends17_any (w : World) (a : Option Addr) (cap : Nat) (A : List PairV) (x y : Int) (b : Bool) (h : Pairs w a A) (hl : A.length ≤ 1000) (he : endAD A = (x, y, b)) :
    Calls Tryz.prog 16 #[.slice a A.length cap] w fun e w' => e = .returned (.tuple #[.int .i64 x, .int .i64 y, .bool b]) ∧ Below w.heap.size w w' := by
  have HI := Lib.hid h
  cases A with
  | nil =>
    have e : endAD [] = (0, 0, false) := rfl
    rw [e] at he
    obtain ⟨rfl, rfl, rfl⟩ : 0 = x ∧ 0 = y ∧ false = b := by simpa using he
    clear h he e
    go_enter Tryz.func16, Tryz.ntmps16
    go_wp2_with fail
    go_ret3
    exact ⟨rfl, Below.refl _ _⟩
  | cons p0 r =>
    have e : endAD (p0 :: r) = (loFD p0.1 (p0 :: r), hiFD p0.1 (p0 :: r), true) := by unfold endAD; rw [if_neg (by simp)]; rfl
    rw [e] at he
    obtain ⟨h1, h2, rfl⟩ : loFD p0.1 (p0 :: r) = x ∧ hiFD p0.1 (p0 :: r) = y ∧ true = b := by simpa using he
    have HX := Lib.hid h1
    have HY := Lib.hid h2
    have h0 : (p0 :: r)[0]? = some p0 := rfl
    have n0 : 0 < (p0 :: r).length := by simp
    have HLB := Lib.hid (fun k => lof_bdD (A := (p0 :: r).take k) (fun p hp => h.ok p (List.mem_of_mem_take hp)) (h.ok _ (List.mem_of_getElem? h0)).1)
    have HHB := Lib.hid (fun k => hif_bdD (A := (p0 :: r).take k) (fun p hp => h.ok p (List.mem_of_mem_take hp)) (h.ok _ (List.mem_of_getElem? h0)).1)
    generalize p0 :: r = A at *
    obtain ⟨x0, n0'⟩ := p0
    obtain ⟨b0, off0, rfl, hbl0, d0, d1⟩ := HI.out.at_ 0 _ h0
    have hk0 := HI.out.ok _ (List.mem_of_getElem? h0)
    obtain ⟨⟨z1, z2⟩, z3, z4⟩ := hk0
    simp only [Nat.zero_mul, Nat.mul_zero, Nat.add_zero] at d0 d1 z1 z2 z3 z4 HX HY HLB HHB
    have nz : ((A.length : Int) == 0) = false := by rw [beq_eq_false_iff_ne]; omega
    clear h he e h1 h2 h0
    go_enter Tryz.func16, Tryz.ntmps16
    go_wp2_with fail
    go_loopw [5, 6, 22] (fun l g j wr => ∃ k : Nat, k ≤ A.length ∧ j = .int .i64 k ∧ l = .int .i64 (loFD x0 (A.take k)) ∧ g = .int .i64 (hiFD x0 (A.take k)) ∧ Below w.heap.size w wr) (fun _ _ j _ => A.length - (intOf j).toNat)
    case atStart => exact ⟨0, Nat.zero_le _, rfl, rfl, rfl, Below.refl _ _⟩
    case round =>
      obtain ⟨k, hk, rfl, rfl, rfl, hb2⟩ := hrel
      have hlb := HLB.out k
      have hhb := HHB.out k
      obtain ⟨LO, hLO⟩ : ∃ LO, loFD x0 (A.take k) = LO := ⟨_, rfl⟩
      obtain ⟨HI2, hHI2⟩ : ∃ HI2, hiFD x0 (A.take k) = HI2 := ⟨_, rfl⟩
      rw [hLO] at hlb
      rw [hHI2] at hhb
      rw [hLO, hHI2]
      obtain ⟨y0, y1⟩ := hlb
      obtain ⟨y2, y3⟩ := hhb
      have HLO := Lib.hid hLO
      have HHI := Lib.hid hHI2
      clear hLO hHI2
      by_cases hlt : k < A.length
      · have kk : (k : Int) < A.length := by omega
        have hxk : A[k]? = some A[k] := List.getElem?_eq_getElem hlt
        generalize hit : A[k] = p at *
        obtain ⟨px, pc⟩ := p
        obtain ⟨b, off, e2, hbl, c0, c1⟩ := (HI.out.call hb2).at_ k _ hxk
        obtain ⟨rfl, rfl⟩ : b0 = b ∧ off0 = off := by simpa using e2
        have HS1 : Hid (loFD x0 (A.take (k + 1)) = min LO px) := Lib.hid (by rw [take_snocP hxk, lof_snocD, HLO.out])
        have HS2 : Hid (hiFD x0 (A.take (k + 1)) = max HI2 px) := Lib.hid (by rw [take_snocP hxk, hif_snocD, HHI.out])
        have hok := HI.out.ok _ (List.mem_of_getElem? hxk)
        obtain ⟨⟨o1, o2⟩, o3, o4⟩ := hok
        have hbs := hb2.size
        simp only at c0 c1 o1 o2 o3 o4 HS1 HS2
        clear hxk hit e2
        go_wp2_with fail
        all_goals
          go_roundw
          case rel => exact ⟨k + 1, by omega, by go_num, by rw [HS1.out], by rw [HS2.out], hb2.alloc hbs _⟩
          case measure => simp [intOf]; omega
      · obtain rfl : k = A.length := by omega
        rw [List.take_length] at HLO HHI
        have kk : ¬ (A.length : Int) < A.length := by omega
        have E : Hid (LO = x ∧ HI2 = y) := Lib.hid ⟨by rw [← HLO.out]; exact HX.out, by rw [← HHI.out]; exact HY.out⟩
        go_wp2_with fail
        go_ret3
        exact ⟨ret_endsD E.out.1 E.out.2, hb2⟩

set_option maxRecDepth 100000 in
set_option maxHeartbeats 1000000 in
theorem rup17_any (w : World) (a : Option Addr) (cap : Nat) (A : List PairV) (x n : Int) (h : Pairs w a A) (hx : I64 x) (hl : A.length ≤ 1000) (hb : sumP A < 18446744073709551616) (hn : whereP (fun y => decide (y ≤ x)) A = n) :
    Calls Tryz.prog 20 #[.slice a A.length cap, .int .i64 x] w fun e w' => e = .returned (.int .u64 n) ∧ Below w.heap.size w w' := by
  have HI := Lib.hid h
  have HN := Lib.hid hn
  have HP := Lib.hid (fun k => where_part (L := A) (fun y => decide (y ≤ x)) (ok_pos h.ok) k)
  obtain ⟨x0, x1⟩ := hx
  clear h hn
  go_enter Tryz.func20, Tryz.ntmps20
  go_wp2_with fail
  go_loopw [5, 10] (fun s j wr => ∃ (k : Nat) (m : Int), k ≤ A.length ∧ j = .int .i64 k ∧ s = .int .u64 m ∧ m = whereP (fun y => decide (y ≤ x)) (A.take k) ∧ Below w.heap.size w wr) (fun _ j _ => A.length - (intOf j).toNat)
  case atStart => exact ⟨0, 0, Nat.zero_le _, rfl, rfl, rfl, Below.refl _ _⟩
  case round =>
    obtain ⟨k, m, hk, rfl, rfl, hm, hb2⟩ := hrel
    have HM := Lib.hid hm
    by_cases hlt : k < A.length
    · have kk : (k : Int) < A.length := by omega
      have hxk : A[k]? = some A[k] := List.getElem?_eq_getElem hlt
      generalize hit : A[k] = p at *
      obtain ⟨px, pc⟩ := p
      obtain ⟨b, off, rfl, hbl, c0, c1⟩ := (HI.out.call hb2).at_ k _ hxk
      have HS := Lib.hid (where_snoc (fun y => decide (y ≤ x)) hxk)
      have hok := HI.out.ok _ (List.mem_of_getElem? hxk)
      have p1 := HP.out (k + 1)
      have p0 := HP.out k
      rw [HS.out] at p1
      rw [← hm] at p0 p1
      have hbs := hb2.size
      obtain ⟨⟨o1, o2⟩, o3, o4⟩ := hok
      simp only [decide_eq_true_eq] at c0 c1 o1 o2 o3 o4 p1 HS
      clear hxk hit hm
      by_cases he : px ≤ x
      · rw [if_pos he] at p1 HS
        obtain ⟨p2, p3⟩ := p1
        obtain ⟨p4, _⟩ := p0
        go_wp2_with fail
        go_roundw
        case rel => exact ⟨k + 1, m + pc, by omega, by go_num, rfl, by rw [HS.out, HM.out], hb2.alloc hbs _⟩
        case measure => simp [intOf]; omega
      · rw [if_neg he] at p1 HS
        clear p0 p1
        go_wp2_with fail
        go_roundw
        case rel => exact ⟨k + 1, m, by omega, by go_num, rfl, by rw [HS.out, HM.out, Int.add_zero], hb2.alloc hbs _⟩
        case measure => simp [intOf]; omega
    · obtain rfl : k = A.length := by omega
      rw [List.take_length] at HM
      have E : Hid (m = n) := Lib.hid (by rw [HM.out]; exact HN.out)
      have kk : ¬ (A.length : Int) < A.length := by omega
      clear hm
      go_wp2_with fail
      go_ret
      exact ⟨ret_int E.out, hb2⟩

/-- Ends behind one value more; of both. -/
def addE (e : Int × Int × Bool) (x : Int) : Int × Int × Bool := if e.2.2 = true then (min e.1 x, max e.2.1 x, true) else (x, x, true)
def joinE (e f : Int × Int × Bool) : Int × Int × Bool := if f.2.2 = true then (if e.2.2 = true then (min e.1 f.1, max e.2.1 f.2.1, true) else f) else e
theorem endA_snoc (A : List PairV) (v : PairV) : endAD (A ++ [v]) = addE (endAD A) v.1 := by
  unfold endAD addE
  rw [if_neg (by simp)]
  by_cases h : A = []
  · subst h
    rw [if_pos rfl]
    simp only [List.nil_append, Bool.false_eq_true, if_false]
    rw [(ends_oneD v).1, (ends_oneD v).2]
  · rw [if_neg h]
    simp only [if_true]
    rw [(ends_snocD h v).1, (ends_snocD h v).2]
theorem endA_app (A B : List PairV) : endAD (A ++ B) = joinE (endAD A) (endAD B) := by
  unfold joinE
  by_cases hB : B = []
  · subst hB
    have : endAD [] = (0, 0, false) := rfl
    rw [this, List.append_nil]; rfl
  · have eB : endAD B = (loVD B, hiVD B, true) := by unfold endAD; rw [if_neg hB]
    rw [eB]
    simp only [if_true]
    by_cases hA : A = []
    · subst hA
      have : endAD [] = (0, 0, false) := rfl
      rw [this, List.nil_append, eB]; rfl
    · have eA : endAD A = (loVD A, hiVD A, true) := by unfold endAD; rw [if_neg hA]
      rw [eA]
      simp only [if_true]
      unfold endAD
      rw [if_neg (by simp [hA]), (ends_appD hA hB).1, (ends_appD hA hB).2]
end Go.Proofs.YthjcdbnjmpjikaaGreat

/-
  What package digest is to do, told as properties of its calls; what a digest has of values that were put.
-/
namespace Go.Proofs.YthjcdbnjmpjikaaGreat
set_option linter.unusedVariables false
set_option linter.unusedSimpArgs false
open Go.RowKit

/-- A row behind one value more; of all values, one by one. -/
def putD (b k : Nat) (R : List PairV) (x c : Int) : List PairV := squeezeD (4 * k) ((sumP R + c) / k) (addP R (((2 ^ b : Nat) : Int) + x) c)
def rowD (b k : Nat) (A : List PairV) : List PairV := A.foldl (fun R p => putD b k R p.1 p.2) []
theorem rowD_snoc (b k : Nat) (A : List PairV) (p : PairV) : rowD b k (A ++ [p]) = putD b k (rowD b k A) p.1 p.2 := by unfold rowD; rw [List.foldl_append]; rfl
/-- Values that can be put, and are played. -/
def FineG (b : Nat) (A : List PairV) : Prop := ∀ v, v ∈ A → (0 ≤ v.1 ∧ v.1 < ((2 ^ b : Nat) : Int)) ∧ 0 < v.2 ∧ v.2 ≤ 1125899906842624
theorem FineG.nil (b : Nat) : FineG b [] := fun v h => (by cases h)
theorem FineG.app {b : Nat} {A B : List PairV} (h : FineG b A) (g : FineG b B) : FineG b (A ++ B) := fun v hv => by
  rcases List.mem_append.1 hv with k | k
  · exact h v k
  · exact g v k
theorem FineG.one {b : Nat} {p : PairV} (h : (0 ≤ p.1 ∧ p.1 < ((2 ^ b : Nat) : Int)) ∧ 0 < p.2 ∧ p.2 ≤ 1125899906842624) : FineG b [p] := fun v hv => by rw [List.mem_singleton.1 hv]; exact h
theorem FineG.take {b : Nat} {A : List PairV} (h : FineG b A) (i : Nat) : FineG b (A.take i) := fun v hv => h v (List.mem_of_mem_take hv)
theorem fineG_sum {b : Nat} : ∀ {A : List PairV}, FineG b A → 0 ≤ sumP A ∧ sumP A ≤ A.length * 1125899906842624
  | [], _ => by rw [sumP_nil]; simp
  | a :: r, h => by
    have h1 := fineG_sum (A := r) fun v hv => h v (List.mem_cons_of_mem _ hv)
    have h2 := h a List.mem_cons_self
    rw [sumP_cons, List.length_cons]
    omega
theorem fineG_sum0 {b : Nat} {A : List PairV} (h : FineG b A) (hA : A ≠ []) : 0 < sumP A := by
  cases A with
  | nil => exact absurd rfl hA
  | cons a r =>
    have h1 := fineG_sum (A := r) fun v hv => h v (List.mem_cons_of_mem _ hv)
    have h2 := h a List.mem_cons_self
    rw [sumP_cons]; omega
/-- What a digest of values has. -/
structure HasG (b k : Nat) (R A : List PairV) : Prop where
  dig : DigP b k R A
  few : R.length ≤ 4 * k
theorem HasG.row {b k : Nat} {R A : List PairV} (h : HasG b k R A) (hs : sumP A ≤ 9223372036854775807) : RowG b R := ⟨h.dig.good, h.dig.node, by rw [h.dig.sum]; exact hs⟩
theorem HasG.nil (b k : Nat) : HasG b k [] [] := ⟨DigP.nil b k, Nat.zero_le _⟩
theorem HasG.put {b k : Nat} {R A : List PairV} (h : HasG b k R A) (hk : 1 ≤ k) {x c : Int} (x0 : 0 ≤ x) (x1 : x < ((2 ^ b : Nat) : Int)) (hc : 0 < c) (hs : sumP R + c ≤ 9223372036854775807) : HasG b k (putD b k R x c) (A ++ [(x, c)]) := by
  have h1 := h.dig.put (by omega : (1 : Int) ≤ (k : Int)) x0 x1 hc hs
  have e : sumP (addP R (((2 ^ b : Nat) : Int) + x) c) = sumP R + c := add_sumD h.dig.good (by omega)
  have h2 := h1.squeeze (by rw [e]; exact hs) (4 * k)
  have h3 := h1.few (by rw [e]; exact hs) (by omega) (show ((4 * k : Nat) : Int) = 4 * (k : Int) by omega)
  rw [e] at h2 h3
  exact ⟨h2, h3⟩
theorem HasG.join {b k : Nat} {R A S B : List PairV} (h : HasG b k R A) (g : HasG b k S B) (hk : 1 ≤ k) (hs : sumP R + sumP S ≤ 9223372036854775807) : HasG b k (squeezeD (4 * k) ((sumP R + sumP S) / k) (joinD R S)) (A ++ B) := by
  have h1 := h.dig.join g.dig (by omega : (1 : Int) ≤ (k : Int)) hs
  have e : sumP (joinD R S) = sumP R + sumP S := by rw [h1.sum, sumP_app, h.dig.sum, g.dig.sum]
  have h2 := h1.squeeze (by rw [e]; exact hs) (4 * k)
  have h3 := h1.few (by rw [e]; exact hs) (by omega) (show ((4 * k : Nat) : Int) = 4 * (k : Int) by omega)
  rw [e] at h2 h3
  exact ⟨h2, h3⟩
theorem rowD_has {b k : Nat} (hk : 1 ≤ k) : ∀ (n : Nat) (A : List PairV), A.length = n → FineG b A → n ≤ 200 → HasG b k (rowD b k A) A
  | 0, A, hn, h, _ => by rw [List.eq_nil_of_length_eq_zero hn]; exact HasG.nil b k
  | n + 1, A, hn, h, h2 => by
    have hne : A ≠ [] := fun e => by rw [e] at hn; cases hn
    have e := List.dropLast_concat_getLast hne
    have hl : A.dropLast.length = n := by rw [List.length_dropLast]; omega
    have hf : FineG b A.dropLast := fun v hv => h v (List.dropLast_subset A hv)
    have ih := rowD_has hk n A.dropLast hl hf (by omega)
    have hm := h _ (List.getLast_mem hne)
    have hs := fineG_sum hf
    rw [hl] at hs
    have := ih.put hk hm.1.1 hm.1.2 hm.2.1 (by rw [ih.dig.sum]; omega)
    rw [← rowD_snoc, e] at this
    exact this
theorem FineG.has {b k : Nat} {A : List PairV} (h : FineG b A) (hk : 1 ≤ k) (hl : A.length ≤ 200) : HasG b k (rowD b k A) A := rowD_has hk A.length A rfl h hl

/-- A digest that can be. -/
structure DigOk (b k : Nat) (R : List PairV) : Prop where
  b1 : 1 ≤ b
  b2 : b ≤ 24
  k1 : 1 ≤ k
  k2 : k ≤ 64
  row : RowG b R
  few : R.length ≤ 4 * k
/-- What is loaded. -/
def loadG (b k : Nat) (L : List PairV) (lo hi : Int) : Bool :=
  goodB L && decide (L.length ≤ 4 * k) && L.all (fun p => decide (1 ≤ p.1) && decide (p.1 < ((2 ^ (b + 1) : Nat) : Int))) && decide (sumP L ≤ 9223372036854775807) &&
  L.all (fun p => decide (((2 ^ b : Nat) : Int) ≤ p.1) || decide (p.2 ≤ sumP L / k)) && decide (0 ≤ lo) && decide (lo ≤ hi) && decide (hi < ((2 ^ b : Nat) : Int)) && (!L.isEmpty || hi == 0)
def confB (d f : Int) : Bool := decide (1 ≤ d) && decide (d ≤ 24) && decide (1 ≤ f) && decide (f ≤ 64)

/-- Dg w B S b k R e: at block B lies a digest of depth b and factor k whose counts are R and whose ends are e; S are its blocks. -/
abbrev DgT := World → Nat → (Nat → Prop) → Nat → Nat → List PairV → (Int × Int × Bool) → Prop
structure DigDoes (Dg : DgT) : Prop where
  keep : ∀ (w w' : World) (B : Nat) (S : Nat → Prop) (b k : Nat) (R : List PairV) (e : Int × Int × Bool), Dg w B S b k R e → (∀ i, S i → w'.heap[i]? = w.heap[i]?) → Dg w' B S b k R e
  lt : ∀ (w : World) (B : Nat) (S : Nat → Prop) (b k : Nat) (R : List PairV) (e : Int × Int × Bool), Dg w B S b k R e → ∀ i, S i → i < w.heap.size
  ok : ∀ (w : World) (B : Nat) (S : Nat → Prop) (b k : Nat) (R : List PairV) (e : Int × Int × Bool), Dg w B S b k R e → DigOk b k R
  new : ∀ (w : World) (b k : Nat), 1 ≤ b → b ≤ 24 → 1 ≤ k → k ≤ 64 → Calls Tryz.prog 31 #[.agg #[.int .i64 b, .int .i64 k]] w fun e w' => ∃ B S, e = .returned (.tuple #[.pointer (some ⟨B, 0, none⟩), .int .i64 0]) ∧ Dg w' B S b k [] (0, 0, false) ∧ (∀ i, S i → w.heap.size ≤ i) ∧ Below w.heap.size w w'
  bad : ∀ (w : World) (d f : Int), I64 d → I64 f → confB d f = false → Calls Tryz.prog 31 #[.agg #[.int .i64 d, .int .i64 f]] w fun e w' => e = .returned (.tuple #[.pointer none, .int .i64 1]) ∧ Below w.heap.size w w'
  total : ∀ (w : World) (B : Nat) (S : Nat → Prop) (b k : Nat) (R : List PairV) (e : Int × Int × Bool), Dg w B S b k R e → Calls Tryz.prog 19 #[.pointer (some ⟨B, 0, none⟩)] w fun r w' => r = .returned (.int .u64 (sumP R)) ∧ Below w.heap.size w w'
  most : ∀ (w : World) (B : Nat) (S : Nat → Prop) (b k : Nat) (R : List PairV) (e : Int × Int × Bool), Dg w B S b k R e → Calls Tryz.prog 29 #[.pointer (some ⟨B, 0, none⟩)] w fun r w' => r = .returned (.int .i64 (4 * (k : Int))) ∧ Below w.heap.size w w'
  put : ∀ (w : World) (B : Nat) (S : Nat → Prop) (b k : Nat) (R : List PairV) (e : Int × Int × Bool) (x c : Int), Dg w B S b k R e → 0 ≤ x → x < ((2 ^ b : Nat) : Int) → 0 < c → sumP R + c ≤ 9223372036854775807 →
    Calls Tryz.prog 24 #[.pointer (some ⟨B, 0, none⟩), .int .i64 x, .int .u64 c] w fun r w' => ∃ S', r = .returned (.int .i64 0) ∧ Dg w' B S' b k (putD b k R x c) (addE e x) ∧ Keeps S w w' ∧ (∀ i, S' i → S i ∨ w.heap.size ≤ i)
  zero : ∀ (w : World) (B : Nat) (S : Nat → Prop) (b k : Nat) (R : List PairV) (e : Int × Int × Bool) (x : Int), Dg w B S b k R e → I64 x →
    Calls Tryz.prog 24 #[.pointer (some ⟨B, 0, none⟩), .int .i64 x, .int .u64 0] w fun r w' => r = .returned (.int .i64 1) ∧ Below w.heap.size w w'
  out : ∀ (w : World) (B : Nat) (S : Nat → Prop) (b k : Nat) (R : List PairV) (e : Int × Int × Bool) (x c : Int), Dg w B S b k R e → I64 x → Word c → 0 < c → ¬ (0 ≤ x ∧ x < ((2 ^ b : Nat) : Int)) →
    Calls Tryz.prog 24 #[.pointer (some ⟨B, 0, none⟩), .int .i64 x, .int .u64 c] w fun r w' => r = .returned (.int .i64 7) ∧ Below w.heap.size w w'
  full : ∀ (w : World) (B : Nat) (S : Nat → Prop) (b k : Nat) (R : List PairV) (e : Int × Int × Bool) (x c : Int), Dg w B S b k R e → 0 ≤ x → x < ((2 ^ b : Nat) : Int) → Word c → 9223372036854775807 < sumP R + c →
    Calls Tryz.prog 24 #[.pointer (some ⟨B, 0, none⟩), .int .i64 x, .int .u64 c] w fun r w' => r = .returned (.int .i64 6) ∧ Below w.heap.size w w'
  join : ∀ (w : World) (B : Nat) (S : Nat → Prop) (b k : Nat) (R : List PairV) (e : Int × Int × Bool) (B' : Nat) (S' : Nat → Prop) (R' : List PairV) (e' : Int × Int × Bool), Dg w B S b k R e → Dg w B' S' b k R' e' → (∀ i, S i → ¬ S' i) → R' ≠ [] → sumP R + sumP R' ≤ 9223372036854775807 →
    Calls Tryz.prog 23 #[.pointer (some ⟨B, 0, none⟩), .pointer (some ⟨B', 0, none⟩)] w fun r w' => ∃ S2, r = .returned (.int .i64 0) ∧ Dg w' B S2 b k (squeezeD (4 * k) ((sumP R + sumP R') / k) (joinD R R')) (joinE e e') ∧ Keeps S w w' ∧ (∀ i, S2 i → S i ∨ w.heap.size ≤ i)
  none_ : ∀ (w : World) (B : Nat) (S : Nat → Prop) (b k : Nat) (R : List PairV) (e : Int × Int × Bool) (B' : Nat) (S' : Nat → Prop) (e' : Int × Int × Bool), Dg w B S b k R e → Dg w B' S' b k [] e' →
    Calls Tryz.prog 23 #[.pointer (some ⟨B, 0, none⟩), .pointer (some ⟨B', 0, none⟩)] w fun r w' => r = .returned (.int .i64 0) ∧ Below w.heap.size w w'
  match_ : ∀ (w : World) (B : Nat) (S : Nat → Prop) (b k : Nat) (R : List PairV) (e : Int × Int × Bool) (B' : Nat) (S' : Nat → Prop) (b' k' : Nat) (R' : List PairV) (e' : Int × Int × Bool), Dg w B S b k R e → Dg w B' S' b' k' R' e' → (b ≠ b' ∨ k ≠ k') →
    Calls Tryz.prog 23 #[.pointer (some ⟨B, 0, none⟩), .pointer (some ⟨B', 0, none⟩)] w fun r w' => r = .returned (.int .i64 8) ∧ Below w.heap.size w w'
  join_nil : ∀ (w : World) (B : Nat) (S : Nat → Prop) (b k : Nat) (R : List PairV) (e : Int × Int × Bool), Dg w B S b k R e → Calls Tryz.prog 23 #[.pointer (some ⟨B, 0, none⟩), .pointer none] w fun r w' => r = .returned (.int .i64 2) ∧ Below w.heap.size w w'
  quantile : ∀ (w : World) (B : Nat) (S : Nat → Prop) (b k : Nat) (R : List PairV) (e : Int × Int × Bool) (pa pb x c : Int), Dg w B S b k R e → Word pa → Word pb → quanG b R pa pb = (x, c) →
    Calls Tryz.prog 11 #[.pointer (some ⟨B, 0, none⟩), .agg #[.int .u64 pa, .int .u64 pb]] w fun r w' => r = .returned (.tuple #[.int .i64 x, .int .i64 c]) ∧ Below w.heap.size w w'
  rank : ∀ (w : World) (B : Nat) (S : Nat → Prop) (b k : Nat) (R : List PairV) (e : Int × Int × Bool) (x n1 n2 : Int), Dg w B S b k R e → I64 x → whereP (fun v => decide (hiD b v ≤ x)) R = n1 → whereP (fun v => decide (loD b v ≤ x)) R = n2 →
    Calls Tryz.prog 13 #[.pointer (some ⟨B, 0, none⟩), .int .i64 x] w fun r w' => r = .returned (.tuple #[.int .u64 n1, .int .u64 n2]) ∧ Below w.heap.size w w'
  ends : ∀ (w : World) (B : Nat) (S : Nat → Prop) (b k : Nat) (R : List PairV) (x y : Int) (z : Bool), Dg w B S b k R (x, y, z) → Calls Tryz.prog 15 #[.pointer (some ⟨B, 0, none⟩)] w fun r w' => r = .returned (.tuple #[.int .i64 x, .int .i64 y, .bool z]) ∧ Below w.heap.size w w'
  config : ∀ (w : World) (B : Nat) (S : Nat → Prop) (b k : Nat) (R : List PairV) (e : Int × Int × Bool), Dg w B S b k R e → Calls Tryz.prog 30 #[.pointer (some ⟨B, 0, none⟩)] w fun r w' => r = .returned (.agg #[.int .i64 b, .int .i64 k]) ∧ Below w.heap.size w w'
  nodes : ∀ (w : World) (B : Nat) (S : Nat → Prop) (b k : Nat) (R : List PairV) (e : Int × Int × Bool), Dg w B S b k R e → Calls Tryz.prog 18 #[.pointer (some ⟨B, 0, none⟩)] w fun r w' => ∃ A cap, r = .returned (.slice A R.length cap) ∧ Pairs w' A R ∧ Below w.heap.size w w'
  load : ∀ (w : World) (b k : Nat) (A : Option Addr) (cap : Nat) (L : List PairV) (lo hi : Int), 1 ≤ b → b ≤ 24 → 1 ≤ k → k ≤ 64 → Pairs w A L → L.length ≤ 300 → I64 lo → I64 hi → loadG b k L lo hi = true →
    Calls Tryz.prog 32 #[.agg #[.int .i64 b, .int .i64 k], .slice A L.length cap, .int .i64 lo, .int .i64 hi] w fun r w' => ∃ B S, r = .returned (.tuple #[.pointer (some ⟨B, 0, none⟩), .int .i64 0]) ∧ Dg w' B S b k L (if L = [] then (0, 0, false) else (lo, hi, true)) ∧ (∀ i, S i → w.heap.size ≤ i) ∧ Below w.heap.size w w'
  unfit : ∀ (w : World) (b k : Nat) (A : Option Addr) (cap : Nat) (L : List PairV) (lo hi : Int), 1 ≤ b → b ≤ 24 → 1 ≤ k → k ≤ 64 → Pairs w A L → L.length ≤ 300 → I64 lo → I64 hi → loadG b k L lo hi = false →
    Calls Tryz.prog 32 #[.agg #[.int .i64 b, .int .i64 k], .slice A L.length cap, .int .i64 lo, .int .i64 hi] w fun r w' => r = .returned (.tuple #[.pointer none, .int .i64 1]) ∧ Below w.heap.size w w'
theorem DigDoes.call {Dg : DgT} (D : DigDoes Dg) {w w' : World} {B : Nat} {S : Nat → Prop} {b k : Nat} {R : List PairV} {e : Int × Int × Bool} (h : Dg w B S b k R e) (hb : Below w.heap.size w w') : Dg w' B S b k R e :=
  D.keep w w' B S b k R e h fun i hi => hb.block i (D.lt _ _ _ _ _ _ _ h i hi)
theorem DigDoes.past {Dg : DgT} (D : DigDoes Dg) {w w' : World} {B : Nat} {S S0 : Nat → Prop} {b k : Nat} {R : List PairV} {e : Int × Int × Bool} (h : Dg w B S b k R e) (hk : Keeps S0 w w') (hS : ∀ i, S i → ¬ S0 i) : Dg w' B S b k R e :=
  D.keep w w' B S b k R e h fun i hi => hk.block i (D.lt _ _ _ _ _ _ _ h i hi) (hS i hi)
theorem DigDoes.grown {Dg : DgT} (D : DigDoes Dg) {w w' : World} {B M : Nat} {S : Nat → Prop} {b k : Nat} {R : List PairV} {e : Int × Int × Bool} (h : Dg w B S b k R e) (hg : w.grownBy w' (some M)) (hS : ¬ S M) : Dg w' B S b k R e :=
  D.keep w w' B S b k R e h fun i hi => hg.block i (D.lt _ _ _ _ _ _ _ h i hi) (fun h => hS (by have e := Option.some.inj h; rw [e] at hi; exact hi))

/-- A nil digest. -/
structure DigNil : Prop where
  put : ∀ (w : World) (x c : Int), I64 x → Word c → Calls Tryz.prog 24 #[.pointer none, .int .i64 x, .int .u64 c] w fun r w' => r = .returned (.int .i64 2) ∧ Below w.heap.size w w'
  join : ∀ (w : World), Calls Tryz.prog 23 #[.pointer none, .pointer none] w fun r w' => r = .returned (.int .i64 2) ∧ Below w.heap.size w w'
  quantile : ∀ (w : World) (pa pb : Int), Word pa → Word pb → Calls Tryz.prog 11 #[.pointer none, .agg #[.int .u64 pa, .int .u64 pb]] w fun r w' => r = .returned (.tuple #[.int .i64 0, .int .i64 2]) ∧ Below w.heap.size w w'
  rank : ∀ (w : World) (x : Int), I64 x → Calls Tryz.prog 13 #[.pointer none, .int .i64 x] w fun r w' => r = .returned (.tuple #[.int .u64 0, .int .u64 0]) ∧ Below w.heap.size w w'
  ends : ∀ (w : World), Calls Tryz.prog 15 #[.pointer none] w fun r w' => r = .returned (.tuple #[.int .i64 0, .int .i64 0, .bool false]) ∧ Below w.heap.size w w'
  total : ∀ (w : World), Calls Tryz.prog 19 #[.pointer none] w fun r w' => r = .returned (.int .u64 0) ∧ Below w.heap.size w w'
  nodes : ∀ (w : World), Calls Tryz.prog 18 #[.pointer none] w fun r w' => ∃ A cap, r = .returned (.slice A 0 cap) ∧ Below w.heap.size w w'
  most : ∀ (w : World), Calls Tryz.prog 29 #[.pointer none] w fun r w' => r = .returned (.int .i64 0) ∧ Below w.heap.size w w'
  config : ∀ (w : World), Calls Tryz.prog 30 #[.pointer none] w fun r w' => r = .returned (.agg #[.int .i64 0, .int .i64 0]) ∧ Below w.heap.size w w'
end Go.Proofs.YthjcdbnjmpjikaaGreat

/-
  What package strip is to do, said once (proved elsewhere of the code, for its own way to lay a strip in memory); what the laws of strip ask first.
-/
namespace Go.Proofs.YthjcdbnjmpjikaaGreat
set_option linter.unusedVariables false
set_option linter.unusedSimpArgs false
open Go.RowKit

/-- What adding to a strip tells; what is kept then. -/
def stErr (m : Int) (L : List PairV) (i c : Int) : Int := if c = 0 then 1 else if 9223372036854775807 - sumP L < c then 6 else if m < ((addP L i c).length : Int) then 6 else 0
def stRow (m : Int) (L : List PairV) (i c : Int) : List PairV := if stErr m L i c = 0 then addP L i c else L
/-- A row that a strip of that many pairs can have. -/
structure Stp (m : Int) (L : List PairV) : Prop where
  good : GoodP L
  ok : ∀ p, p ∈ L → okP p
  sum : sumP L ≤ 9223372036854775807
  most : (L.length : Int) ≤ m
theorem Stp.nil {m : Int} (h : 0 ≤ m) : Stp m [] := ⟨good_nil, fun p h => (by cases h), by decide, h⟩
theorem Stp.cnt {m : Int} {L : List PairV} (h : Stp m L) (i : Int) : 0 ≤ countP L i ∧ countP L i ≤ sumP L := count_le_sum i (ok_pos h.ok)
theorem stErr_cases {m : Int} {L : List PairV} {i c : Int} (hc : Word c) : (c = 0 ∧ stErr m L i c = 1) ∨ (0 < c ∧ 9223372036854775807 - sumP L < c ∧ stErr m L i c = 6) ∨
    (0 < c ∧ c ≤ 9223372036854775807 - sumP L ∧ m < ((addP L i c).length : Int) ∧ stErr m L i c = 6) ∨ (0 < c ∧ c ≤ 9223372036854775807 - sumP L ∧ ((addP L i c).length : Int) ≤ m ∧ stErr m L i c = 0) := by
  unfold Word at hc
  unfold stErr
  by_cases h0 : c = 0
  · exact Or.inl ⟨h0, by rw [if_pos h0]⟩
  · rw [if_neg h0]
    by_cases h1 : 9223372036854775807 - sumP L < c
    · exact Or.inr (Or.inl ⟨by omega, h1, by rw [if_pos h1]⟩)
    · rw [if_neg h1]
      by_cases h2 : m < ((addP L i c).length : Int)
      · exact Or.inr (Or.inr (Or.inl ⟨by omega, by omega, h2, by rw [if_pos h2]⟩))
      · exact Or.inr (Or.inr (Or.inr ⟨by omega, by omega, by omega, by rw [if_neg h2]⟩))
theorem stp_add {m : Int} {L : List PairV} {i c : Int} (h : Stp m L) (hi : I64 i) (hc : Word c) : Stp m (stRow m L i c) := by
  have hw := hc
  unfold Word at hw
  unfold stRow
  rcases stErr_cases (m := m) (L := L) (i := i) hc with ⟨_, e⟩ | ⟨_, _, e⟩ | ⟨_, _, _, e⟩ | ⟨h1, h2, h3, e⟩
  · rw [if_neg (by omega)]; exact h
  · rw [if_neg (by omega)]; exact h
  · rw [if_neg (by omega)]; exact h
  · rw [if_pos e]
    have h4 := h.cnt i
    exact ⟨add_good h.good (by omega), add_ok h.ok hi (by omega), by rw [add_sum (by omega)]; omega, h3⟩
theorem stRow_len (m : Int) (L : List PairV) (i c : Int) : (stRow m L i c).length ≤ L.length + 1 := by
  unfold stRow
  split
  · exact add_len L i c
  · omega
theorem sumP_tail {L : List PairV} (h : ∀ p, p ∈ L → 0 ≤ p.2) : 0 ≤ sumP L.tail ∧ sumP L.tail ≤ sumP L := by
  cases L with
  | nil => exact ⟨Int.le_refl _, Int.le_refl _⟩
  | cons p r =>
    have h1 := h p (by simp)
    have h2 := sumP_pos (L := r) fun q hq => h q (List.mem_cons_of_mem _ hq)
    rw [sumP_cons]
    exact ⟨h2, by show sumP r ≤ _; omega⟩
theorem stp_tail {m : Int} {L : List PairV} (h : Stp m L) : Stp m L.tail :=
  ⟨by rw [← List.drop_one]; exact good_drop 1 h.good, fun p hp => h.ok p (List.mem_of_mem_tail hp), Int.le_trans (sumP_tail (ok_pos h.ok)).2 h.sum, by have := h.most; rw [List.length_tail]; omega⟩
theorem stp_front {m : Int} {L : List PairV} (h : Stp m L) : Stp m L.dropLast := by
  rw [List.dropLast_eq_take]
  exact ⟨good_take _ h.good, fun p hp => h.ok p (List.mem_of_mem_take hp), Int.le_trans (sumP_take _ (ok_pos h.ok)).2 h.sum, by have := h.most; rw [List.length_take]; omega⟩

/-- A pair as a value. -/
def prV (p : PairV) : Value := .agg #[.int .i64 p.1, .int .u64 p.2]
/-- The first pair, the last one. -/
def firP (L : List PairV) : PairV := L.head?.getD (0, 0)
def lasP (L : List PairV) : PairV := L.getLast?.getD (0, 0)

/-- St w B S m L: at block B lies a strip of m pairs at most whose row is L; S are its blocks. -/
structure StripDoes (St : World → Nat → (Nat → Prop) → Int → List PairV → Prop) : Prop where
  keep : ∀ (w w' : World) (B : Nat) (S : Nat → Prop) (m : Int) (L : List PairV), St w B S m L → (∀ k, S k → w'.heap[k]? = w.heap[k]?) → St w' B S m L
  lt : ∀ (w : World) (B : Nat) (S : Nat → Prop) (m : Int) (L : List PairV), St w B S m L → ∀ k, S k → k < w.heap.size
  stp : ∀ (w : World) (B : Nat) (S : Nat → Prop) (m : Int) (L : List PairV), St w B S m L → Stp m L
  cells : ∀ (w : World) (B : Nat) (S : Nat → Prop) (m : Int) (L : List PairV), St w B S m L → ∀ k, S k → ∃ cs t z, w.heap[k]? = some (.cells cs t z)
  new : ∀ (w : World) (m : Int), 1 ≤ m → m ≤ 4096 → Calls Tryz.prog 80 #[.int .i64 m] w fun e w' => ∃ B S, e = .returned (.tuple #[.pointer (some ⟨B, 0, none⟩), .int .i64 0]) ∧ St w' B S m [] ∧ (∀ k, S k → w.heap.size ≤ k) ∧ Below w.heap.size w w'
  bad : ∀ (w : World) (m : Int), I64 m → (m < 1 ∨ 4096 < m) → Calls Tryz.prog 80 #[.int .i64 m] w fun e w' => e = .returned (.tuple #[.pointer none, .int .i64 1]) ∧ Below w.heap.size w w'
  add : ∀ (w : World) (B : Nat) (S : Nat → Prop) (m : Int) (L : List PairV) (i c : Int), St w B S m L → L.length ≤ 900 → I64 i → Word c →
    Calls Tryz.prog 47 #[.pointer (some ⟨B, 0, none⟩), .int .i64 i, .int .u64 c] w fun e w' => ∃ S', e = .returned (.int .i64 (stErr m L i c)) ∧ St w' B S' m (stRow m L i c) ∧ Keeps S w w' ∧ (∀ k, S' k → S k ∨ w.heap.size ≤ k)
  total : ∀ (w : World) (B : Nat) (S : Nat → Prop) (m : Int) (L : List PairV), St w B S m L → L.length ≤ 900 →
    Calls Tryz.prog 40 #[.pointer (some ⟨B, 0, none⟩)] w fun e w' => e = .returned (.int .u64 (sumP L)) ∧ Below w.heap.size w w'
  len : ∀ (w : World) (B : Nat) (S : Nat → Prop) (m : Int) (L : List PairV), St w B S m L → L.length ≤ 900 →
    Calls Tryz.prog 68 #[.pointer (some ⟨B, 0, none⟩)] w fun e w' => e = .returned (.int .i64 (L.length : Int)) ∧ Below w.heap.size w w'
  pairs : ∀ (w : World) (B : Nat) (S : Nat → Prop) (m : Int) (L : List PairV), St w B S m L → L.length ≤ 900 →
    Calls Tryz.prog 39 #[.pointer (some ⟨B, 0, none⟩)] w fun e w' => ∃ v, e = .returned v ∧ OwnP w' w.heap.size v L ∧ Below w.heap.size w w'
theorem StripDoes.call {St : World → Nat → (Nat → Prop) → Int → List PairV → Prop} (D : StripDoes St) {w w' : World} {B : Nat} {S : Nat → Prop} {m : Int} {L : List PairV} (h : St w B S m L) (hb : Below w.heap.size w w') : St w' B S m L :=
  D.keep w w' B S m L h fun k hk => hb.block k (D.lt _ _ _ _ _ h k hk)

/-- A nil strip. -/
structure StripNil : Prop where
  add : ∀ (w : World) (i c : Int), I64 i → Word c → Calls Tryz.prog 47 #[.pointer none, .int .i64 i, .int .u64 c] w fun e w' => e = .returned (.int .i64 2) ∧ Below w.heap.size w w'
  total : ∀ (w : World), Calls Tryz.prog 40 #[.pointer none] w fun e w' => e = .returned (.int .u64 0) ∧ Below w.heap.size w w'
  len : ∀ (w : World), Calls Tryz.prog 68 #[.pointer none] w fun e w' => e = .returned (.int .i64 0) ∧ Below w.heap.size w w'
  pairs : ∀ (w : World), Calls Tryz.prog 39 #[.pointer none] w fun e w' => ∃ A cap, e = .returned (.slice A 0 cap) ∧ Below w.heap.size w w'

theorem sr1 : stErr 1 [] 5 2 = 0 ∧ stRow 1 [] 5 2 = [(5, 2)] := by decide
theorem sr2 : stErr 1 [(5, 2)] 3 1 = 6 ∧ stRow 1 [(5, 2)] 3 1 = [(5, 2)] := by decide
theorem sr3 : countP [(5, 2)] 5 = 2 := by decide

end Go.Proofs.YthjcdbnjmpjikaaGreat
/-
  The contract of a tree, as a Prop (a Tree is one whole number: its depth); the law's alive; the law TreeHalves.
-/
namespace Go.Proofs.YthjcdbnjmpjikaaGreat
set_option linter.unusedVariables false
set_option linter.unusedSimpArgs false
open Go.RowKit Go.Joins

def treeV (b : Nat) : Value := .agg #[.int .i64 b]
def lvI (b : Nat) (v : Int) : Int := if goodT b v = true then (lvlT v.toNat : Int) else -1
def upI (b : Nat) (v : Int) : Int := if goodT b v = true then v / 2 else 0
def besI (b : Nat) (v : Int) : Int := if goodT b v = true ∧ v ≠ 1 then (if v % 2 = 0 then v + 1 else v - 1) else 0
def rloI (b : Nat) (v : Int) : Int := if goodT b v = true then loI b v.toNat else 0
def rhiI (b : Nat) (v : Int) : Int := if goodT b v = true then hiI b v.toNat else 0
def abI (b : Nat) (v w : Int) : Bool := goodT b v && goodT b w && decide (aboveT v.toNat w.toNat)
/-- What a tree does. -/
structure TreeDoes : Prop where
  new_ok : ∀ w (b : Nat), 1 ≤ b → b ≤ 24 → Calls Tryz.prog 51 #[.int .i64 b] w fun e w' => e = .returned (.tuple #[.agg #[.int .i64 b], .int .i64 0]) ∧ Below w.heap.size w w'
  new_no : ∀ w (d : Int), I64 d → ¬ (1 ≤ d ∧ d ≤ 24) → Calls Tryz.prog 51 #[.int .i64 d] w fun e w' => ∃ x, e = .returned (.tuple #[.agg #[.int .i64 x], .int .i64 1]) ∧ Below w.heap.size w w'
  leaves : ∀ w (b : Nat), 1 ≤ b → b ≤ 24 → Calls Tryz.prog 59 #[.agg #[.int .i64 b]] w fun e w' => e = .returned (.int .i64 ((2 ^ b : Nat) : Int)) ∧ Below w.heap.size w w'
  depth : ∀ w (b : Nat), 1 ≤ b → b ≤ 24 → Calls Tryz.prog 79 #[.agg #[.int .i64 b]] w fun e w' => e = .returned (.int .i64 b) ∧ Below w.heap.size w w'
  good : ∀ w (b : Nat) (v : Int), 1 ≤ b → b ≤ 24 → I64 v → Calls Tryz.prog 57 #[.agg #[.int .i64 b], .int .i64 v] w fun e w' => e = .returned (.bool (goodT b v)) ∧ Below w.heap.size w w'
  leaf_in : ∀ w (b : Nat) (x : Int), 1 ≤ b → b ≤ 24 → 0 ≤ x → x < ((2 ^ b : Nat) : Int) → Calls Tryz.prog 46 #[.agg #[.int .i64 b], .int .i64 x] w fun e w' => e = .returned (.tuple #[.int .i64 (((2 ^ b : Nat) : Int) + x), .bool true]) ∧ Below w.heap.size w w'
  leaf_out : ∀ w (b : Nat) (x : Int), 1 ≤ b → b ≤ 24 → I64 x → ¬ (0 ≤ x ∧ x < ((2 ^ b : Nat) : Int)) → Calls Tryz.prog 46 #[.agg #[.int .i64 b], .int .i64 x] w fun e w' => e = .returned (.tuple #[.int .i64 0, .bool false]) ∧ Below w.heap.size w w'
  up : ∀ w (b : Nat) (v : Int), 1 ≤ b → b ≤ 24 → I64 v → Calls Tryz.prog 113 #[.agg #[.int .i64 b], .int .i64 v] w fun e w' => e = .returned (.int .i64 (upI b v)) ∧ Below w.heap.size w w'
  beside : ∀ w (b : Nat) (v : Int), 1 ≤ b → b ≤ 24 → I64 v → Calls Tryz.prog 114 #[.agg #[.int .i64 b], .int .i64 v] w fun e w' => e = .returned (.int .i64 (besI b v)) ∧ Below w.heap.size w w'
  level : ∀ w (b : Nat) (v : Int), 1 ≤ b → b ≤ 24 → I64 v → Calls Tryz.prog 58 #[.agg #[.int .i64 b], .int .i64 v] w fun e w' => e = .returned (.int .i64 (lvI b v)) ∧ Below w.heap.size w w'
  range : ∀ w (b : Nat) (v : Int), 1 ≤ b → b ≤ 24 → I64 v → Calls Tryz.prog 35 #[.agg #[.int .i64 b], .int .i64 v] w fun e w' => e = .returned (.tuple #[.int .i64 (rloI b v), .int .i64 (rhiI b v)]) ∧ Below w.heap.size w w'
  before : ∀ w (b : Nat) (v u : Int), 1 ≤ b → b ≤ 24 → goodT b v = true → goodT b u = true → Calls Tryz.prog 62 #[.agg #[.int .i64 b], .int .i64 v, .int .i64 u] w fun e w' => e = .returned (.bool (beforeT b v.toNat u.toNat)) ∧ Below w.heap.size w w'
theorem tree_cell (w : World) (x : Value) : (w.alloc (.cells #[x] 79)).cell? ⟨w.heap.size, 0, none⟩ = some x := by
  have h : (w.alloc (.cells #[x] 79)).heap[w.heap.size]? = some (.cells #[x] 79 (0, 0)) := by
    unfold World.alloc
    exact Array.getElem?_push_size
  rw [Go.Joins.cell_of_block h]; rfl

end Go.Proofs.YthjcdbnjmpjikaaGreat
/-
  Plain mathematics of the reference's way to read a number: no program in sight.
  Walks: the reference's bytes of numbers and of values.
-/
namespace Go.Proofs.YthjcdbnjmpjikaaGreat
set_option linter.unusedVariables false
set_option linter.unusedSimpArgs false

/-- The reference's way: from the last byte to the first one. -/
def hor (l : List UInt8) (j t : Nat) : Nat := valL ((l.take (j + 1)).drop t) % 18446744073709551616
theorem hor_start {l : List UInt8} {j : Nat} (h : j < l.length) : hor l j (j + 1) = 0 := by
  unfold hor; rw [List.drop_of_length_le (by rw [List.length_take]; omega)]; rfl
theorem hor_step {l : List UInt8} {j t : Nat} {b : UInt8} (ht : t ≤ j) (h : l[t]? = some b) : hor l j t = (hor l j (t + 1) * 128 + b.toNat % 128) % 18446744073709551616 := by
  have ht' := lt_of_some h
  have e : (l.take (j + 1)).drop t = b :: (l.take (j + 1)).drop (t + 1) := by
    rw [List.drop_eq_getElem_cons (by rw [List.length_take]; omega)]
    congr 1
    rw [List.getElem_take]
    rw [List.getElem?_eq_getElem ht'] at h
    exact Option.some.inj h
  unfold hor
  rw [e]
  show (b.toNat % 128 + 128 * valL ((l.take (j + 1)).drop (t + 1))) % 18446744073709551616 = _
  omega
theorem hor_end (l : List UInt8) (j : Nat) : hor l j 0 = valL (l.take (j + 1)) % 18446744073709551616 := by unfold hor; rw [List.drop_zero]
theorem hor_lt (l : List UInt8) (j t : Nat) : hor l j t < 18446744073709551616 := Nat.mod_lt _ (by decide)
/-- What the reference tells at the first byte that ends. -/
theorem tak_at {l : List UInt8} {j : Nat} {b : UInt8} {most : Nat} (hj : j < 10) (h1 : (l.take j).all hiB = true) (h2 : l[j]? = some b) (h3 : hiB b = false) :
    takS l most = if natB (hor l j 0) = l.take (j + 1) ∧ hor l j 0 ≤ most then (hor l j 0, j + 1) else (0, 0) := by
  have e := take_some h2
  have hlen : (l.take j).length = j := by rw [List.length_take]; have := lt_of_some h2; omega
  have hi := natB_iff h1 h3
  have hF := firstS_at h1 h2 h3
  rw [← e, hlen] at hi
  rw [hor_end]
  by_cases hc : natB (valL (l.take (j + 1)) % 18446744073709551616) = l.take (j + 1)
  · have hv := hi.1 hc
    have hm : valL (l.take (j + 1)) % 18446744073709551616 = valL (l.take (j + 1)) := Nat.mod_eq_of_lt hv.1
    rw [if_pos ⟨hj, hv.1, hv.2⟩] at hF
    rw [hm] at hc ⊢
    unfold takS
    rw [hF]
    by_cases hle : valL (l.take (j + 1)) ≤ most
    · rw [if_neg (by simp only []; omega), if_pos ⟨hc, hle⟩]
    · rw [if_pos (Or.inr (by simp only []; omega)), if_neg (fun h => hle h.2)]
  · have hn : ¬ (j < 10 ∧ valL (l.take (j + 1)) < 18446744073709551616 ∧ (j = 0 ∨ b.toNat ≠ 0)) := fun h => hc (hi.2 h.2)
    rw [if_neg hn] at hF
    unfold takS
    rw [hF, if_pos (Or.inl rfl), if_neg (fun h => hc h.1)]
theorem tak_none {l : List UInt8} {most : Nat} (h : firstS l = (0, 0)) : takS l most = (0, 0) := by
  unfold takS; rw [h, if_pos (Or.inl rfl)]
end Go.Proofs.YthjcdbnjmpjikaaGreat

namespace Go.Proofs.YthjcdbnjmpjikaaGreat
set_option linter.unusedVariables false
set_option linter.unusedSimpArgs false
open Go.RowKit

theorem byte_atA' (s : ByteArray) (k : Nat) (h : k < s.size) : s.data.toList[k]? = some (s[k]'h) := by
  obtain ⟨⟨l⟩⟩ := s
  exact List.getElem?_eq_getElem h

end Go.Proofs.YthjcdbnjmpjikaaGreat
/-
  Walks: what the laws of quill ask first; small numbers.
  The law QuillSmall, walked.
  The law QuillNumbers, walked.
-/
namespace Go.Proofs.YthjcdbnjmpjikaaGreat
set_option linter.unusedVariables false
set_option linter.unusedSimpArgs false
open Go.RowKit

theorem eye_sz {w w' : World} {B : Nat} (h : w.grownBy w' (some B)) : w.heap.size ≤ w'.heap.size := h.size
theorem grown_below' {n B : Nat} {a w w' : World} (h : Below n a w) (hg : w.grownBy w' (some B)) (hn : n ≤ B) (hs : n ≤ w.heap.size) : Below n a w' := h.trans (grown_below hg hn hs)

end Go.Proofs.YthjcdbnjmpjikaaGreat

namespace Go.Proofs.YthjcdbnjmpjikaaGreat
set_option linter.unusedVariables false
set_option linter.unusedSimpArgs false
open Go.RowKit

theorem mk_toList (l : List UInt8) : (⟨l.toArray⟩ : ByteArray).data.toList = l := rfl
theorem mk_size (l : List UInt8) : (⟨l.toArray⟩ : ByteArray).size = l.length := by rw [Lib.size_eq]
theorem ext_size (s : ByteArray) (a : Nat) : (s.extract a s.size).size = s.size - a := by
  rw [Lib.size_eq, ← Lib.toList_data, Lib.extract_toList, Lib.size_eq, List.length_take, List.length_drop]; omega
theorem below_eye {n : Nat} {a w w' : World} {B : Nat} (h : Below n a w) (hg : w.grownBy w' (some B)) (hB : n ≤ B) (hs : n ≤ w.heap.size) : Below n a w' := h.trans (grown_below hg hB hs)

end Go.Proofs.YthjcdbnjmpjikaaGreat

namespace Go.Proofs.YthjcdbnjmpjikaaGreat
set_option linter.unusedVariables false
set_option linter.unusedSimpArgs false
open Go.RowKit

theorem ext_list (s : ByteArray) (a : Nat) : (s.extract a s.size).data.toList = s.data.toList.drop a := by
  rw [← Lib.toList_data, Lib.extract_toList, Lib.size_eq, List.take_of_length_le (by rw [List.length_drop]; omega)]
/-- An eye on a number's bytes, and more. -/
theorem eye_got {t : ByteArray} {n m : Nat} {r : List UInt8} (hn : n < 18446744073709551616) (hm : n ≤ m) (ht : t.data.toList = natB n ++ r) :
    gone t false m = false ∧ nV t false m = n ∧ (nS t false m).data.toList = r := by
  have K := takS_nat hn hm r
  rw [← ht] at K
  have hp := natB_pos n
  have G : gone t false m = false := by unfold gone; rw [K]; show (false || decide ((natB n).length = 0)) = false; rw [decide_eq_false (by omega)]; rfl
  refine ⟨G, by unfold nV; rw [G, K]; rfl, ?_⟩
  unfold nS; rw [G, K]
  show (t.extract (natB n).length t.size).data.toList = r
  rw [ext_list, ht, List.drop_left]
/-- What the reference tells, and what an eye tells. -/
theorem eye_tak (t : ByteArray) (m a k : Nat) (h : takS t.data.toList m = (a, k)) : nV t false m = a ∧ gone t false m = ((k : Int) == 0) := by
  have G : gone t false m = decide (k = 0) := by unfold gone; rw [h]; rfl
  refine ⟨?_, ?_⟩
  · unfold nV; rw [G, h]
    by_cases hk : k = 0
    · have := takS_zero (l := t.data.toList) (m := m) (by rw [h]; exact hk)
      rw [h] at this
      have ha : a = 0 := this
      simp [hk, ha]
    · simp [hk]
  · rw [G]; by_cases hk : k = 0 <;> simp [hk]

end Go.Proofs.YthjcdbnjmpjikaaGreat
/-
  Rows of things that are written: in memory, as an argument; walks: whether they are more than is played.
-/
namespace Go.Proofs.YthjcdbnjmpjikaaGreat
set_option linter.unusedVariables false
set_option linter.unusedSimpArgs false
open Go.RowKit

/-- A thing that is written. -/
structure ItemV where
  kind : Int
  u : Int
  x : Int
  s : ByteArray
structure ItemV.ok (it : ItemV) : Prop where
  kind : I64 it.kind
  u : Word it.u
  x : I64 it.x
  s : it.s.size ≤ 140737488351232
/-- A row of them in memory. -/
structure Items (w : World) (A : Option Addr) (L : List ItemV) : Prop where
  ok : ∀ it, it ∈ L → it.ok
  at_ : ∀ (i : Nat) (it : ItemV), L[i]? = some it → ∃ b off, A = some ⟨b, off, none⟩ ∧ b < w.heap.size ∧ w.cell? ⟨b, off + i * 4, none⟩ = some (.int .i64 it.kind) ∧
    w.cell? ⟨b, off + i * 4 + 1, none⟩ = some (.int .u64 it.u) ∧ w.cell? ⟨b, off + i * 4 + 2, none⟩ = some (.int .i64 it.x) ∧ w.cell? ⟨b, off + i * 4 + 3, none⟩ = some (.string it.s)
theorem Items.call {w w' : World} {A : Option Addr} {L : List ItemV} (h : Items w A L) (hb : Below w.heap.size w w') : Items w' A L :=
  ⟨h.ok, fun i it hi => by
    obtain ⟨b, off, hA, hlt, c0, c1, c2, c3⟩ := h.at_ i it hi
    exact ⟨b, off, hA, Nat.lt_of_lt_of_le hlt hb.size, cell_later hb c0, cell_later hb c1, cell_later hb c2, cell_later hb c3⟩⟩
/-- How many bytes their texts have; whether that is too many. -/
def tot (L : List ItemV) : Nat := (L.map fun it => it.s.size).sum
def greatB (L : List ItemV) : Bool := decide (4096 < tot L) || decide (60 < L.length)
theorem tot_snoc {L : List ItemV} {k : Nat} {it : ItemV} (h : L[k]? = some it) : tot (L.take (k + 1)) = tot (L.take k) + it.s.size := by
  have hk : k < L.length := by
    rcases Nat.lt_or_ge k L.length with h' | h'
    · exact h'
    · rw [List.getElem?_eq_none h'] at h; cases h
  rw [List.take_succ_eq_append_getElem hk]
  rw [List.getElem?_eq_getElem hk] at h
  rw [Option.some.inj h]
  unfold tot
  rw [List.map_append, List.sum_append]; simp
theorem tot_le (L : List ItemV) (k : Nat) : tot (L.take k) ≤ tot L := by
  have : tot L = tot (L.take k) + tot (L.drop k) := by
    unfold tot
    rw [← List.sum_append, ← List.map_append, List.take_append_drop]
  omega

theorem two_blocks (w : World) (o o' : Obj) : ((w.alloc o).alloc o').heap[w.heap.size]? = some o ∧ ((w.alloc o).alloc o').heap[w.heap.size + 1]? = some o' := by
  constructor
  · rw [heap_alloc_old _ _ (by simp)]; exact heap_alloc_new _ _
  · have := heap_alloc_new (w.alloc o) o'
    simpa using this

end Go.Proofs.YthjcdbnjmpjikaaGreat
/-
  Walks: the reference's Bytes of rows of pairs.
  What package runs is to do, said once (each is proved elsewhere of the code); what the laws of runs ask first.
  Rows of rows of pairs: plain, in memory, appended to.
-/
namespace Go.Proofs.YthjcdbnjmpjikaaGreat
set_option linter.unusedVariables false
set_option linter.unusedSimpArgs false
open Go.RowKit

end Go.Proofs.YthjcdbnjmpjikaaGreat

namespace Go.Proofs.YthjcdbnjmpjikaaGreat
set_option linter.unusedVariables false
set_option linter.unusedSimpArgs false
open Go.RowKit

def GoodDoes : Prop := ∀ (w : World) (A : Option Addr) (cap : Nat) (L : List PairV) (most : Int) (b : Bool), Pairs w A L → L.length ≤ 1000 → I64 most → (goodB L && decide ((L.length : Int) ≤ most)) = b →
  Calls Tryz.prog 78 #[.slice A L.length cap, .int .i64 most] w fun e w' => e = .returned (.bool b) ∧ Below w.heap.size w w'

def TotalDoes : Prop := ∀ (w : World) (A : Option Addr) (cap : Nat) (L : List PairV) (n : Int) (b : Bool), Pairs w A L → L.length ≤ 1000 → totalP L = n → fitsB L = b →
  Calls Tryz.prog 77 #[.slice A L.length cap] w fun e w' => e = .returned (.tuple #[.int .u64 n, .bool b]) ∧ Below w.heap.size w w'

/-- Where an index stands, or would; whether it does. -/
def isP (L : List PairV) (i : Int) : Bool := L.any fun p => p.1 == i

def FindDoes : Prop := ∀ (w : World) (A : Option Addr) (cap : Nat) (L : List PairV) (i : Int) (n : Nat) (b : Bool), Pairs w A L → L.length ≤ 1000 → GoodP L → I64 i → (lowP L i).length = n → isP L i = b →
  Calls Tryz.prog 73 #[.slice A L.length cap, .int .i64 i] w fun e w' => e = .returned (.tuple #[.int .i64 n, .bool b]) ∧ Below w.heap.size w w'

/-- What adding to a row of one's own comes to. -/
def Added (w : World) (base : Nat) (v : Value) (L : List PairV) (i c : Int) (e : Ending) (w' : World) : Prop :=
  ∃ v', e = .returned v' ∧ OwnP w' base v' (addP L i c) ∧ w.grownBy w' v.ownBlock ∧ (v'.ownBlock = v.ownBlock ∨ ∀ g, v'.ownBlock = some g → w.heap.size ≤ g)

/-- A text that begins with a row's bytes. -/
def RowOf (s : List UInt8) (most : Int) (L : List PairV) (rest : List UInt8) : Prop := GoodP L ∧ (∀ p, p ∈ L → okP p) ∧ (L.length : Int) ≤ most ∧ s = rowB L ++ rest
/-- What getting a row comes to. -/
def Gets (w : World) (B : Nat) (s : ByteArray) (bad : Bool) (most : Int) (e : Ending) (w' : World) : Prop :=
  w.grownBy w' (some B) ∧
  ((∃ (v : Value) (L : List PairV) (t : ByteArray), e = .returned v ∧ bad = false ∧ RowOf s.data.toList (max most 0) L t.data.toList ∧ OwnP w' w.heap.size v L ∧ Eye w' B t false) ∨
   (∃ (A : Option Addr) (cap : Nat), e = .returned (.slice A 0 cap) ∧ (bad = true ∨ ∀ L t, ¬ RowOf s.data.toList most L t) ∧ Eye w' B ⟨#[]⟩ true))

theorem row_alive : rowB [(-1, 5), (3, 1)] = [2, 1, 5, 3, 1] := by
  have e : ∀ n, n < 128 → natB n = [UInt8.ofNat n] := fun n h => natB_lt h
  show natB 2 ++ (natB (zig (-1)).toNat ++ (natB (5 : Int).toNat ++ (natB (farP (-1) 3) ++ (natB (1 : Int).toNat ++ [])))) = _
  rw [show (zig (-1)).toNat = 1 from rfl, show farP (-1) 3 = 3 from rfl, show (5 : Int).toNat = 5 from rfl, show (1 : Int).toNat = 1 from rfl]
  rw [e 2 (by omega), e 1 (by omega), e 5 (by omega), e 3 (by omega)]
  rfl

/-- A block of pairs, known whole. -/
theorem pairs_of_block {w : World} {g : Nat} {cs : Array Value} {L : List PairV} (h : w.heap[g]? = some (.cells cs 61 (0, 0))) (hc : cs = (cellsQ L).toArray) (hok : ∀ p, p ∈ L → okP p) : Pairs w (some ⟨g, 0, none⟩) L := by
  subst hc
  refine ⟨hok, fun i p hi => ⟨g, 0, rfl, lt_of_block h, ?_, ?_⟩⟩
  · have := (cellsQ_at L i p hi).1
    simp [World.cell?, h, this]
  · have := (cellsQ_at L i p hi).2
    simp [World.cell?, h, this]
theorem two_ok : ∀ p, p ∈ [((-1 : Int), (5 : Int)), (3, 1)] → okP p := by
  intro p hp
  simp only [List.mem_cons, List.not_mem_nil, or_false] at hp
  rcases hp with rfl | rfl <;> exact ⟨⟨by decide, by decide⟩, by decide, by decide⟩
theorem one_ok : ∀ p, p ∈ [((1 : Int), (1 : Int))] → okP p := by
  intro p hp
  simp only [List.mem_cons, List.not_mem_nil, or_false] at hp
  subst hp; exact ⟨⟨by decide, by decide⟩, by decide, by decide⟩
theorem two_good : GoodP [((-1 : Int), (5 : Int)), (3, 1)] := by decide
theorem one_good : (goodB [((1 : Int), (1 : Int))] && decide ((([((1 : Int), (1 : Int))].length : Nat) : Int) ≤ 1)) = true := by decide

end Go.Proofs.YthjcdbnjmpjikaaGreat

namespace Go.Proofs.YthjcdbnjmpjikaaGreat
set_option linter.unusedVariables false
set_option linter.unusedSimpArgs false
open Go.RowKit

/-- A row among others: where it lies, its room, its pairs. -/
structure RowV where
  a : Option Addr
  cap : Nat
  l : List PairV
def allP (R : List RowV) : List PairV := R.flatMap fun r => r.l
theorem allP_app (A B : List RowV) : allP (A ++ B) = allP A ++ allP B := by unfold allP; rw [List.flatMap_append]
theorem allP_one (r : RowV) : allP [r] = r.l := by unfold allP; simp
theorem count_all_rev : ∀ (R : List RowV) (j : Int), countP (allP R.reverse) j = countP (allP R) j := by
  intro R
  induction R with
  | nil => intro j; rfl
  | cons r t ih =>
    intro j
    rw [List.reverse_cons, allP_app, countP_app, ih, allP_one]
    show _ = countP (allP ([r] ++ t)) j
    rw [allP_app, countP_app, allP_one]; omega
theorem all_mem {R : List RowV} {p : PairV} (h : p ∈ allP R) : ∃ r, r ∈ R ∧ p ∈ r.l := by unfold allP at h; exact List.mem_flatMap.1 h
theorem all_len : ∀ (R : List RowV) (n : Nat), (∀ r, r ∈ R → r.l.length ≤ n) → (allP R).length ≤ n * R.length := by
  intro R n
  induction R with
  | nil => intro _; exact Nat.zero_le _
  | cons r t ih =>
    intro h
    have h1 := h r (by simp)
    have h2 := ih fun x hx => h x (List.mem_cons_of_mem _ hx)
    unfold allP at *
    rw [List.flatMap_cons, List.length_append, List.length_cons, Nat.mul_succ]; omega
/-- Whatever the rows' order, what comes of them is the same. -/
theorem fold_rev {R : List RowV} (h : ∀ p, p ∈ allP R → okP p ∧ p.2 ≤ 1099511627776) (hl : (allP R).length ≤ 1000) : foldP (allP R.reverse) = foldP (allP R) := by
  have h' : ∀ p, p ∈ allP R.reverse → okP p ∧ p.2 ≤ 1099511627776 := fun p hp => by
    obtain ⟨r, hr, hq⟩ := all_mem hp
    exact h p (by unfold allP; exact List.mem_flatMap.2 ⟨r, List.mem_reverse.1 hr, hq⟩)
  have hl' : (allP R.reverse).length ≤ 1000 := by
    have : (allP R.reverse).length = (allP R).length := by
      unfold allP
      rw [List.length_flatMap, List.length_flatMap, List.map_reverse, List.sum_reverse]
    omega
  obtain ⟨s1, c1⟩ := fold_sums _ h hl
  obtain ⟨s2, c2⟩ := fold_sums _ h' hl'
  exact good_ext s2.good s1.good fun j => by rw [c2, c1, count_all_rev]

end Go.Proofs.YthjcdbnjmpjikaaGreat
/-
  Walk: wide.Plus of two numbers, that lie in a block of their own.
-/
namespace Go.Proofs.YthjcdbnjmpjikaaGreat
set_option linter.unusedVariables false
set_option linter.unusedSimpArgs false
open Go.RowKit

def plus2B (a b : Int) : Bool := decide (a + b ≤ 9223372036854775807)
def plus2Q (a b : Int) : Int := if plus2B a b then a + b else 0

set_option maxRecDepth 100000 in
set_option maxHeartbeats 1000000 in
theorem plus_two (x y q : Int) (ok : Bool) (g cap : Nat) (w : World) (hx : Word x) (hy : Word y) (h0 : w.cell? ⟨g, 0, none⟩ = some (.int .u64 x)) (h1 : w.cell? ⟨g, 1, none⟩ = some (.int .u64 y)) (hq : plus2Q x y = q) (hb : plus2B x y = ok) :
    Calls Tryz.prog 42 #[.slice (some ⟨g, 0, none⟩) 2 cap] w fun e w' =>
      e = .returned (.tuple #[.int .u64 q, .bool ok]) ∧ w = w' := by
  obtain ⟨x0, x1⟩ := hx
  obtain ⟨y0, y1⟩ := hy
  have HQ := Lib.hid hq
  have HB := Lib.hid hb
  clear hq hb
  by_cases a1 : 9223372036854775807 < x
  · have E1 : Hid (ok = false) := Lib.hid (by rw [← HB.out]; unfold plus2B; apply decide_eq_false; omega)
    have E2 : Hid (q = 0) := Lib.hid (by rw [← HQ.out]; unfold plus2Q; rw [HB.out, E1.out]; rfl)
    go_enter Tryz.func42, Tryz.ntmps42
    go_wp2_with fail
    go_loop [4, 9] (fun s i => s = .int .u64 0 ∧ i = .int .i64 0) (fun _ _ => 0)
    case atStart => exact ⟨rfl, rfl⟩
    case round =>
      obtain ⟨rfl, rfl⟩ := hrel
      have a2 : 9223372036854775807 - 0 < x := by omega
      go_wp2_with fail
      exact bodyPost_ret (v := .tuple #[.int .u64 0, .bool false]) (by simp [results, Tryz.results42, go_sem]) rfl ⟨by rw [E1.out, E2.out], rfl⟩
  · by_cases a2 : 9223372036854775807 - x < y
    · have E1 : Hid (ok = false) := Lib.hid (by rw [← HB.out]; unfold plus2B; apply decide_eq_false; omega)
      have E2 : Hid (q = 0) := Lib.hid (by rw [← HQ.out]; unfold plus2Q; rw [HB.out, E1.out]; rfl)
      go_enter Tryz.func42, Tryz.ntmps42
      go_wp2_with fail
      go_loop [4, 9] (fun s i => (s = .int .u64 0 ∧ i = .int .i64 0) ∨ (s = .int .u64 x ∧ i = .int .i64 1)) (fun _ i => 2 - (intOf i).toNat)
      case atStart => exact Or.inl ⟨rfl, rfl⟩
      case round =>
        rcases hrel with ⟨rfl, rfl⟩ | ⟨rfl, rfl⟩
        · go_wp2_with fail
          go_round
          case rel => exact Or.inr ⟨by go_num, by go_num⟩
          case measure => simp [intOf]
        · go_wp2_with fail
          exact bodyPost_ret (v := .tuple #[.int .u64 0, .bool false]) (by simp [results, Tryz.results42, go_sem]) rfl ⟨by rw [E1.out, E2.out], rfl⟩
    · have E1 : Hid (ok = true) := Lib.hid (by rw [← HB.out]; unfold plus2B; apply decide_eq_true; omega)
      have E2 : Hid (q = x + y) := Lib.hid (by rw [← HQ.out]; unfold plus2Q; rw [HB.out, E1.out]; rfl)
      go_enter Tryz.func42, Tryz.ntmps42
      go_wp2_with fail
      go_loop [4, 9] (fun s i => (s = .int .u64 0 ∧ i = .int .i64 0) ∨ (s = .int .u64 x ∧ i = .int .i64 1) ∨ (s = .int .u64 (x + y) ∧ i = .int .i64 2)) (fun _ i => 2 - (intOf i).toNat)
      case atStart => exact Or.inl ⟨rfl, rfl⟩
      case round =>
        rcases hrel with ⟨rfl, rfl⟩ | ⟨rfl, rfl⟩ | ⟨rfl, rfl⟩
        · go_wp2_with fail
          go_round
          case rel => exact Or.inr (Or.inl ⟨by go_num, by go_num⟩)
          case measure => simp [intOf]
        · go_wp2_with fail
          go_round
          case rel => exact Or.inr (Or.inr ⟨by go_num, by go_num⟩)
          case measure => simp [intOf]
        · go_wp2_with fail
          exact bodyPost_ret (v := .tuple #[.int .u64 (x + y), .bool true]) (by simp [results, Tryz.results42, go_sem]) rfl ⟨by rw [E1.out, E2.out], rfl⟩
end Go.Proofs.YthjcdbnjmpjikaaGreat

/-
  Walks: the landed code of runs: Good, Total.
-/
namespace Go.Proofs.YthjcdbnjmpjikaaGreat
set_option linter.unusedVariables false
set_option linter.unusedSimpArgs false
open Go.RowKit

set_option maxRecDepth 100000 in
set_option maxHeartbeats 1000000 in
theorem good_big (w : World) (A : Option Addr) (cap : Nat) (L : List PairV) (most : Int) (b : Bool) (h : Pairs w A L) (hl : L.length ≤ 100000) (hm : I64 most) (hbb : (goodB L && decide ((L.length : Int) ≤ most)) = b) :
    Calls Tryz.prog 78 #[.slice A L.length cap, .int .i64 most] w fun e w' => e = .returned (.bool b) ∧ Below w.heap.size w w' := by
  have HB := Lib.hid hbb
  have HI := Lib.hid h
  obtain ⟨m0, m1⟩ := hm
  clear hbb h
  by_cases hlen : (L.length : Int) ≤ most
  · have q0 : ¬ most < (L.length : Int) := by omega
    have HB2 : Hid (goodB L = b) := Lib.hid (by rw [← HB.out, decide_eq_true hlen, Bool.and_true])
    clear HB hlen
    go_enter Tryz.func78, Tryz.ntmps78
    go_wp2_with fail
    go_loopw [13] (fun j wr => ∃ k : Nat, k ≤ L.length ∧ j = .int .i64 k ∧ GoodP (L.take k) ∧ Below w.heap.size w wr) (fun j _ => L.length - (intOf j).toNat)
    case atStart => exact ⟨0, Nat.zero_le _, rfl, good_nil, Below.refl _ _⟩
    case round =>
      obtain ⟨k, hk, rfl, hg, hb2⟩ := hrel
      have hbs := hb2.size
      by_cases hlt : k < L.length
      · have kk : (k : Int) < L.length := by omega
        have hxk : L[k]? = some L[k] := List.getElem?_eq_getElem hlt
        generalize hit : L[k] = p at *
        have hst := good_step hxk hg
        obtain ⟨px, pc⟩ := p
        obtain ⟨b0, off, rfl, hbl, c0, c1⟩ := (HI.out.call hb2).at_ k _ hxk
        have hok := HI.out.ok _ (List.mem_of_getElem? hxk)
        obtain ⟨⟨o1, o2⟩, o3, o4⟩ := hok
        have HST := Lib.hid hst
        have hneg : ∀ k : Nat, ¬ GoodP (L.take k) → ¬ GoodP L := fun k h hg => h (good_take _ hg)
        have HN := Lib.hid hneg
        simp only at c0 c1 o1 o2 o3 o4 HST
        clear hxk hit hg hst hneg
        by_cases h1 : pc = 0
        · have HE : Hid (b = false) := Lib.hid (by rw [← HB2.out]; exact goodB_false.2 (HN.out (k + 1) (fun hg => by have := (HST.out.1 hg).1; omega)))
          subst h1
          go_wp2_with fail
          go_ret
          exact ⟨by rw [HE.out]; rfl, hb2.alloc hbs _⟩
        · have h1' : (pc == 0) = false := by simpa using h1
          by_cases h2 : 9223372036854775807 < pc
          · have HE : Hid (b = false) := Lib.hid (by rw [← HB2.out]; exact goodB_false.2 (HN.out (k + 1) (fun hg => by have := (HST.out.1 hg).1; omega)))
            go_wp2_with fail
            go_ret
            exact ⟨by rw [HE.out]; rfl, hb2.alloc hbs _⟩
          · by_cases h0 : k = 0
            · subst h0
              simp only [Nat.zero_mul, Nat.add_zero, Nat.zero_add] at c0 c1
              have HG : Hid (GoodP (L.take (0 + 1))) := Lib.hid (HST.out.2 ⟨⟨by omega, by omega⟩, fun h => by omega⟩)
              go_wp2_with fail
              go_quiet (fail)
              go_wp2_with fail
              go_roundw
              case rel => exact ⟨1, by omega, by go_num, HG.out, below_drewM (hb2.alloc hbs _) _⟩
              case measure => simp [intOf]; omega
            · obtain ⟨u, hu⟩ : ∃ u, k = u + 1 := ⟨k - 1, by omega⟩
              have hxu : L[u]? = some L[u] := List.getElem?_eq_getElem (by omega)
              generalize hiu : L[u] = q at *
              obtain ⟨qx, qc⟩ := q
              obtain ⟨b1, off1, ea, hbl1, d0, d1⟩ := (HI.out.call hb2).at_ u _ hxu
              obtain ⟨rfl, rfl⟩ : b0 = b1 ∧ off = off1 := by
                have := Option.some.inj ea
                exact ⟨(Addr.mk.inj this).1, (Addr.mk.inj this).2.1⟩
              simp only at d0 d1
              have u1 : IntKind.i64.wrap ((k : Int) - 1) = (u : Int) := by rw [IntKind.wrap_i64]; omega
              have u2 : (k : Int) - 1 = (u : Int) := by omega
              have u3 : (u : Int) < L.length := by omega
              have k0 : 0 < k := by omega
              have k0d : decide (0 < k) = true := decide_eq_true k0
              have HU : Hid (L[k - 1]? = some (qx, qc)) := Lib.hid (by rw [hu, Nat.add_sub_cancel]; exact hxu)
              have HK := Lib.hid hu
              have hok := HI.out.ok _ (List.mem_of_getElem? hxu)
              clear ea hxu hiu h0 hu
              by_cases h3 : qx < px
              · have HG : Hid (GoodP (L.take (k + 1))) := Lib.hid (HST.out.2 ⟨⟨by omega, by omega⟩, fun h z hz => by rw [HU.out] at hz; have := Option.some.inj hz; rw [← this]; exact h3⟩)
                have h3' : decide (px ≤ qx) = false := decide_eq_false (by omega)
                go_wp2_with fail
                go_quiet (fail)
                go_wp2_with fail
                go_roundw
                case rel => exact ⟨k + 1, by omega, by go_num, HG.out, below_drewM (hb2.alloc hbs _) _⟩
                case measure => simp [intOf]; omega
              · have HE : Hid (b = false) := Lib.hid (by rw [← HB2.out]; exact goodB_false.2 (HN.out (k + 1) (fun hg => h3 ((HST.out.1 hg).2 (by omega) _ HU.out))))
                have h3' : decide (px ≤ qx) = true := decide_eq_true (by omega)
                go_wp2_with fail
                go_quiet (fail)
                go_wp2_with fail
                go_ret
                exact ⟨by rw [HE.out]; rfl, below_drewM (hb2.alloc hbs _) _⟩
      · obtain rfl : k = L.length := by omega
        rw [List.take_length] at hg
        have HE : Hid (b = true) := Lib.hid (by rw [← HB2.out]; exact goodB_true.2 hg)
        have kk : ¬ (L.length : Int) < L.length := by omega
        clear hg
        go_wp2_with fail
        go_ret
        exact ⟨by rw [HE.out]; rfl, hb2⟩
  · have q0 : most < (L.length : Int) := by omega
    have HE : Hid (b = false) := Lib.hid (by rw [← HB.out, decide_eq_false hlen, Bool.and_false])
    clear HB hlen
    go_enter Tryz.func78, Tryz.ntmps78
    go_wp2_with fail
    go_ret
    exact ⟨by rw [HE.out]; rfl, Below.refl _ _⟩
theorem good_does : GoodDoes := fun w A cap L most b h hl hm hbb => good_big w A cap L most b h (by omega) hm hbb

theorem psum_step {L : List PairV} {k : Nat} {p : PairV} (h : L[k]? = some p) : sumP (L.take (k + 1)) = sumP (L.take k) + p.2 := by rw [take_snocP h, sumP_app, sumP_one]

set_option maxRecDepth 100000 in
set_option maxHeartbeats 1000000 in
theorem total_does : TotalDoes := by
  intro w A cap L n b h hl hn hb
  have HI := Lib.hid h
  have HN := Lib.hid hn
  have HB := Lib.hid hb
  have HS := Lib.hid (fun k => sumP_take (L := L) k (ok_pos h.ok))
  clear h hn hb
  go_enter Tryz.func77, Tryz.ntmps77
  go_wp2_with fail
  go_loopw [4, 11] (fun s j wr => ∃ (k : Nat) (m : Int), k ≤ L.length ∧ j = .int .i64 k ∧ s = .int .u64 m ∧ sumP (L.take k) = m ∧ m ≤ 9223372036854775807 ∧ Below w.heap.size w wr) (fun _ j _ => L.length - (intOf j).toNat)
  case atStart => exact ⟨0, 0, Nat.zero_le _, rfl, rfl, rfl, by decide, Below.refl _ _⟩
  case round =>
    obtain ⟨k, m, hk, rfl, rfl, hm, hm1, hb2⟩ := hrel
    have HM := Lib.hid hm
    have m0 := (HS.out k).1
    rw [hm] at m0
    have hbs := hb2.size
    clear hm
    by_cases hlt : k < L.length
    · have kk : (k : Int) < L.length := by omega
      have hxk : L[k]? = some L[k] := List.getElem?_eq_getElem hlt
      generalize hit : L[k] = p at *
      obtain ⟨px, pc⟩ := p
      obtain ⟨b0, off, rfl, hbl, c0, c1⟩ := (HI.out.call hb2).at_ k _ hxk
      have hok := HI.out.ok _ (List.mem_of_getElem? hxk)
      have hst := psum_step hxk
      simp only at c0 c1 hst
      rw [HM.out] at hst
      have s1 := (HS.out (k + 1))
      rw [hst] at s1
      have HST := Lib.hid hst
      have HPC : Hid (Word pc) := Lib.hid hok.2
      obtain ⟨o3, o4⟩ := HPC.out
      obtain ⟨q, hq⟩ : ∃ q, plus2Q m pc = q := ⟨_, rfl⟩
      obtain ⟨ok, hok2⟩ : ∃ ok, plus2B m pc = ok := ⟨_, rfl⟩
      have HQ := Lib.hid hq
      have HOK := Lib.hid hok2
      have HSM := Lib.hid s1
      clear hxk hit hok hst hq hok2 s1
      go_wp2_with fail
      refine (plus_two m pc q ok _ _ _ ⟨by omega, by omega⟩ HPC.out (by go_simp) (by go_simp) HQ.out HOK.out).mono ?_
      rintro e w' ⟨rfl, rfl⟩
      cases ok with
      | true =>
        have HQ2 : Hid (q = m + pc ∧ m + pc ≤ 9223372036854775807) := Lib.hid (by
          have h1 := HOK.out; unfold plus2B at h1
          have h2 := HQ.out; unfold plus2Q plus2B at h2; rw [h1] at h2
          exact ⟨h2.symm, of_decide_eq_true h1⟩)
        go_wp2_with fail
        go_roundw
        case rel => exact ⟨k + 1, q, by omega, by go_num, rfl, by rw [HST.out, HQ2.out.1], by rw [HQ2.out.1]; exact HQ2.out.2, (hb2.alloc hbs _).alloc (by simp; omega) _⟩
        case measure => simp [intOf]; omega
      | false =>
        have HE : Hid (b = false ∧ n = 0) := Lib.hid (by
          have h1 := HOK.out; unfold plus2B at h1
          have h2 := of_decide_eq_false h1
          have h3 := HSM.out.2
          have e : fitsB L = false := by unfold fitsB; apply decide_eq_false; omega
          exact ⟨by rw [← HB.out, e], by rw [← HN.out]; unfold totalP; rw [e]; rfl⟩)
        go_wp2_with fail
        go_ret2
        exact ⟨ret_pair HE.out.2.symm HE.out.1.symm, (hb2.alloc hbs _).alloc (by simp; omega) _⟩
    · obtain rfl : k = L.length := by omega
      rw [List.take_length] at HM
      have HE : Hid (m = n ∧ true = b) := Lib.hid (by
        have e : fitsB L = true := by unfold fitsB; apply decide_eq_true; rw [HM.out]; exact hm1
        exact ⟨by rw [← HN.out, ← HM.out]; unfold totalP; rw [e]; rfl, by rw [← HB.out, e]⟩)
      have kk : ¬ (L.length : Int) < L.length := by omega
      go_wp2_with fail
      go_ret2
      exact ⟨ret_pair HE.out.1 HE.out.2, hb2⟩
end Go.Proofs.YthjcdbnjmpjikaaGreat

/-
  Walks: package digest, over strips that do what they are to do: a digest in memory; Total, Config, Most, Ends, Nodes, reach, pour, filled; nil ones.
-/
namespace Go.Proofs.YthjcdbnjmpjikaaGreat
set_option linter.unusedVariables false
set_option linter.unusedSimpArgs false
open Go.RowKit

abbrev StT := World → Nat → (Nat → Prop) → Int → List PairV → Prop
theorem dg_newcells (w : World) (o : Obj) : (w.alloc o).heap[w.heap.size]? = some o := by
  unfold World.alloc
  exact Array.getElem?_push_size
theorem dg_ltb {w : World} {B : Nat} {cs : Array Value} {t : TypeId} {z : Nat × Nat} (h : w.heap[B]? = some (.cells cs t z)) : B < w.heap.size := (Array.getElem?_eq_some_iff.1 h).1
theorem dg_two (w : World) (x y : Value) (t : TypeId) : (w.alloc (.cells #[x, y] t)).cell? ⟨w.heap.size, 0, none⟩ = some x ∧ (w.alloc (.cells #[x, y] t)).cell? ⟨w.heap.size, 1, none⟩ = some y := by
  have h : (w.alloc (.cells #[x, y] t)).heap[w.heap.size]? = some (.cells #[x, y] t (0, 0)) := dg_newcells w _
  exact ⟨by rw [Joins.cell_of_block h]; rfl, by rw [Joins.cell_of_block h]; rfl⟩
theorem sterrD_ok {K : List PairV} {i c : Int} (hc : 0 < c) (hs : sumP K + c ≤ 9223372036854775807) (hl : K.length ≤ 1000) : stErr 4096 K i c = 0 := by
  have := add_len K i c
  unfold stErr
  rw [if_neg (by omega), if_neg (by omega), if_neg (by omega)]
theorem strowD_ok {K : List PairV} {i c : Int} (hc : 0 < c) (hs : sumP K + c ≤ 9223372036854775807) (hl : K.length ≤ 1000) : stRow 4096 K i c = addP K i c := by
  unfold stRow; rw [if_pos (sterrD_ok hc hs hl)]
theorem sterrD_full {K : List PairV} {i c : Int} (hc : 0 < c) (hs : 9223372036854775807 < sumP K + c) : stErr 4096 K i c = 6 := by
  unfold stErr
  rw [if_neg (by omega), if_pos (by omega)]
theorem keepsD_then {S T : Nat → Prop} {w w1 w2 : World} (h : Keeps S w w1) (h' : Keeps T w1 w2) (hS : ∀ k, k < w.heap.size → T k → S k) : Keeps S w w2 :=
  ⟨h'.os.trans h.os, h'.tape.trans h.tape, h'.output.trans h.output, Nat.le_trans h.size h'.size, fun k hk hn => (h'.block k (Nat.lt_of_lt_of_le hk h.size) (fun x => hn (hS k hk x))).trans (h.block k hk hn)⟩
theorem keepsD_put {w : World} {B o : Nat} {x : Value} {S : Nat → Prop} (h : S B) : Keeps S w (w.setCell ⟨B, o, none⟩ x) :=
  ⟨rfl, rfl, rfl, by simp [World.setCell], fun k _ hk => Below.heap_setCell w _ _ k (fun e => hk (by show S k; rw [show k = B from e]; exact h))⟩
theorem pairsD_past {S : Nat → Prop} {w w' : World} {A : Option Addr} {L : List PairV} (h : Pairs w A L) (k : Keeps S w w') (hA : ∀ b off, A = some ⟨b, off, none⟩ → L ≠ [] → ¬ S b) : Pairs w' A L := by
  refine ⟨h.ok, fun i p hi => ?_⟩
  obtain ⟨b, off, e, hlt, c0, c1⟩ := h.at_ i p hi
  have hne : L ≠ [] := by intro e'; rw [e'] at hi; simp at hi
  have hb := k.block b hlt (hA b off e hne)
  exact ⟨b, off, e, Nat.lt_of_lt_of_le hlt k.size, (World.cell?_of_block (a := ⟨b, off + i * 2, none⟩) hb).trans c0, (World.cell?_of_block (a := ⟨b, off + i * 2 + 1, none⟩) hb).trans c1⟩
theorem sumD_step {L : List PairV} {k : Nat} {p : PairV} (h : L[k]? = some p) : sumP (L.take (k + 1)) = sumP (L.take k) + p.2 := by
  rw [take_snocP h, sumP_app, sumP_one]
theorem joinD_take {K L : List PairV} {k : Nat} {p : PairV} (h : L[k]? = some p) : joinD K (L.take (k + 1)) = addP (joinD K (L.take k)) p.1 p.2 := by
  unfold joinD; rw [take_snocP h, List.foldl_append]; rfl
theorem joinD_len (K : List PairV) : ∀ L : List PairV, (joinD K L).length ≤ K.length + L.length := by
  intro L
  induction L generalizing K with
  | nil => exact Nat.le_refl _
  | cons p r ih =>
    have h1 := ih (addP K p.1 p.2)
    have h2 := add_len K p.1 p.2
    have e : joinD K (p :: r) = joinD (addP K p.1 p.2) r := rfl
    rw [e, List.length_cons]; omega
theorem joinD_sum {K L : List PairV} (hg : GoodP K) (hp : ∀ p, p ∈ L → 1 ≤ p.2) (hs : sumP K + sumP L ≤ 9223372036854775807) : sumP (joinD K L) = sumP K + sumP L := by
  rw [← where_all, (join_factsD L K hg hp hs).2.1, where_all, where_all]
/-- A good row, poured into nothing. -/
theorem joinD_load {L : List PairV} (hg : GoodP L) : joinD [] L = L := by
  have h : ∀ n, n ≤ L.length → joinD [] (L.take n) = L.take n := by
    intro n
    induction n with
    | zero => intro _; rfl
    | succ n ih =>
      intro hn
      have hx : L[n]? = some L[n] := List.getElem?_eq_getElem (by omega)
      rw [joinD_take hx, ih (by omega)]
      have g1 := good_take (n + 1) hg
      rw [take_snocP hx] at g1
      have h3 := (good_app g1).2.2
      have hlow : ∀ q, q ∈ L.take n → q.1 < L[n].1 := fun q hq => h3 q hq _ (by simp)
      have hpos := (hg.1 _ (List.getElem_mem (show n < L.length by omega))).1
      have hc : countP (L.take n) L[n].1 = 0 := by
        unfold countP
        rw [List.filter_eq_nil_iff.2 fun q hq => by have := hlow q hq; simp; omega]; rfl
      unfold addP
      rw [hc, Int.zero_add]
      unfold midP lowP highP
      rw [if_pos (by omega), List.filter_eq_self.2 fun q hq => by simpa using hlow q hq, List.filter_eq_nil_iff.2 fun q hq => by have := hlow q hq; simp; omega, take_snocP hx]
      rfl
  have := h L.length (Nat.le_refl _)
  rwa [List.take_length] at this

/-- A digest in memory: its own block, its strip. -/
structure DgRaw (St : StT) (w : World) (B C : Nat) (S1 : Nat → Prop) (b k : Nat) (R : List PairV) (lo hi : Int) : Prop where
  blk : w.heap[B]? = some (.cells #[.int .i64 b, .int .i64 k, .int .i64 b, .pointer (some ⟨C, 0, none⟩), .int .i64 lo, .int .i64 hi] 82 (0, 0))
  st : St w C S1 4096 R
  n1 : ¬ S1 B
/-- What is read of its block. -/
structure DgC (w : World) (B C : Nat) (b k : Nat) (lo hi : Int) : Prop where
  c0 : w.cell? ⟨B, 0, none⟩ = some (.int .i64 b)
  c1 : w.cell? ⟨B, 1, none⟩ = some (.int .i64 k)
  c2 : w.cell? ⟨B, 2, none⟩ = some (.int .i64 b)
  c3 : w.cell? ⟨B, 3, none⟩ = some (.pointer (some ⟨C, 0, none⟩))
  c4 : w.cell? ⟨B, 4, none⟩ = some (.int .i64 lo)
  c5 : w.cell? ⟨B, 5, none⟩ = some (.int .i64 hi)
theorem dg_block {w : World} {B C b k : Nat} {lo hi : Int} (hb : w.heap[B]? = some (.cells #[.int .i64 b, .int .i64 k, .int .i64 b, .pointer (some ⟨C, 0, none⟩), .int .i64 lo, .int .i64 hi] 82 (0, 0))) : DgC w B C b k lo hi :=
  ⟨by rw [Joins.cell_of_block hb]; rfl, by rw [Joins.cell_of_block hb]; rfl, by rw [Joins.cell_of_block hb]; rfl, by rw [Joins.cell_of_block hb]; rfl, by rw [Joins.cell_of_block hb]; rfl, by rw [Joins.cell_of_block hb]; rfl⟩
theorem DgC.call {w w' : World} {B C b k : Nat} {lo hi : Int} (h : DgC w B C b k lo hi) (hb : Below w.heap.size w w') : DgC w' B C b k lo hi :=
  ⟨cell_later hb h.c0, cell_later hb h.c1, cell_later hb h.c2, cell_later hb h.c3, cell_later hb h.c4, cell_later hb h.c5⟩
theorem DgRaw.cells {St : StT} {w : World} {B C : Nat} {S1 : Nat → Prop} {b k : Nat} {R : List PairV} {lo hi : Int} (x : DgRaw St w B C S1 b k R lo hi) : DgC w B C b k lo hi := dg_block x.blk
/-- Its blocks. -/
def dgS (B : Nat) (S1 : Nat → Prop) : Nat → Prop := fun i => i = B ∨ S1 i
theorem DgRaw.keep {St : StT} (D : StripDoes St) {w w' : World} {B C : Nat} {S1 : Nat → Prop} {b k : Nat} {R : List PairV} {lo hi : Int} (x : DgRaw St w B C S1 b k R lo hi) (hk : ∀ i, dgS B S1 i → w'.heap[i]? = w.heap[i]?) : DgRaw St w' B C S1 b k R lo hi :=
  ⟨(hk B (Or.inl rfl)).trans x.blk, D.keep _ _ _ _ _ _ x.st fun i hi' => hk i (Or.inr hi'), x.n1⟩
theorem DgRaw.lt {St : StT} (D : StripDoes St) {w : World} {B C : Nat} {S1 : Nat → Prop} {b k : Nat} {R : List PairV} {lo hi : Int} (x : DgRaw St w B C S1 b k R lo hi) : ∀ i, dgS B S1 i → i < w.heap.size := by
  rintro i (rfl | hi')
  · exact dg_ltb x.blk
  · exact D.lt _ _ _ _ _ x.st i hi'
theorem DgRaw.call {St : StT} (D : StripDoes St) {w w' : World} {B C : Nat} {S1 : Nat → Prop} {b k : Nat} {R : List PairV} {lo hi : Int} (x : DgRaw St w B C S1 b k R lo hi) (hb : Below w.heap.size w w') : DgRaw St w' B C S1 b k R lo hi :=
  x.keep D fun i hi' => hb.block i (x.lt D i hi')
/-- At block B lies a digest of depth b and factor k whose counts are R and whose ends are e; S are its blocks. -/
def DgX (St : StT) : DgT := fun w B S b k R e =>
  DigOk b k R ∧ ∃ C S1 lo hi, DgRaw St w B C S1 b k R lo hi ∧ I64 lo ∧ I64 hi ∧ e = (if R = [] then (0, 0, false) else (lo, hi, true)) ∧ ∀ i, S i ↔ dgS B S1 i
theorem DgX.keep {St : StT} (D : StripDoes St) {w w' : World} {B : Nat} {S : Nat → Prop} {b k : Nat} {R : List PairV} {e : Int × Int × Bool} (x : DgX St w B S b k R e) (hk : ∀ i, S i → w'.heap[i]? = w.heap[i]?) : DgX St w' B S b k R e := by
  obtain ⟨ho, C, S1, lo, hi, hr, h1, h2, h3, hS⟩ := x
  exact ⟨ho, C, S1, lo, hi, hr.keep D fun i hi' => hk i ((hS i).2 hi'), h1, h2, h3, hS⟩
theorem DgX.lt {St : StT} (D : StripDoes St) {w : World} {B : Nat} {S : Nat → Prop} {b k : Nat} {R : List PairV} {e : Int × Int × Bool} (x : DgX St w B S b k R e) : ∀ i, S i → i < w.heap.size := by
  obtain ⟨ho, C, S1, lo, hi, hr, h1, h2, h3, hS⟩ := x
  exact fun i hi' => hr.lt D i ((hS i).1 hi')
theorem DgX.call {St : StT} (D : StripDoes St) {w w' : World} {B : Nat} {S : Nat → Prop} {b k : Nat} {R : List PairV} {e : Int × Int × Bool} (x : DgX St w B S b k R e) (hb : Below w.heap.size w w') : DgX St w' B S b k R e :=
  x.keep D fun i hi' => hb.block i (x.lt D i hi')
theorem rowg_sum0 {b : Nat} {R : List PairV} (h : RowG b R) : 0 ≤ sumP R ∧ (sumP R = 0 ↔ R = []) := by
  refine ⟨sumP_pos h.pos, fun e => ?_, fun e => by rw [e]; rfl⟩
  cases R with
  | nil => rfl
  | cons p r =>
    have h1 := (h.good.1 p List.mem_cons_self).1
    have h2 := sumP_pos (L := r) fun q hq => h.pos q (List.mem_cons_of_mem _ hq)
    rw [sumP_cons] at e; omega

set_option maxHeartbeats 400000 in
theorem dg_total {St : StT} (D : StripDoes St) {w : World} {B C : Nat} {S1 : Nat → Prop} {b k : Nat} {R : List PairV} {lo hi : Int} (x : DgRaw St w B C S1 b k R lo hi) (hl : R.length ≤ 900) (n : Int) (hn : sumP R = n) :
    Calls Tryz.prog 19 #[.pointer (some ⟨B, 0, none⟩)] w fun e w' => e = .returned (.int .u64 n) ∧ Below w.heap.size w w' := by
  have HT := Lib.hid (D.total w C S1 4096 R x.st hl)
  have c3 := x.cells.c3
  rw [hn] at HT
  clear x hn
  go_enter Tryz.func19, Tryz.ntmps19
  go_wp2_with fail
  refine HT.out.mono ?_
  rintro e w1 ⟨rfl, b1⟩
  go_wp2_with fail
  go_ret
  exact ⟨rfl, b1⟩

theorem dg_total_nil (w : World) : Calls Tryz.prog 19 #[.pointer none] w fun e w' => e = .returned (.int .u64 0) ∧ Below w.heap.size w w' := by
  go_enter Tryz.func19, Tryz.ntmps19
  go_wp2_with fail
  go_ret
  exact ⟨rfl, Below.refl _ _⟩

set_option maxHeartbeats 400000 in
theorem dg_nodes {St : StT} (D : StripDoes St) {w : World} {B C : Nat} {S1 : Nat → Prop} {b k : Nat} {R : List PairV} {lo hi : Int} (x : DgRaw St w B C S1 b k R lo hi) (hl : R.length ≤ 900) :
    Calls Tryz.prog 18 #[.pointer (some ⟨B, 0, none⟩)] w fun e w' => ∃ v, e = .returned v ∧ OwnP w' w.heap.size v R ∧ Below w.heap.size w w' := by
  have HT := Lib.hid (D.pairs w C S1 4096 R x.st hl)
  have c3 := x.cells.c3
  clear x
  go_enter Tryz.func18, Tryz.ntmps18
  go_wp2_with fail
  refine HT.out.mono ?_
  rintro e w1 ⟨v, rfl, ho, b1⟩
  go_wp2_with fail
  go_ret
  exact ⟨v, rfl, ho, b1⟩

theorem dg_nodes_nil (w : World) : Calls Tryz.prog 18 #[.pointer none] w fun e w' => e = .returned (.slice none 0 0) ∧ Below w.heap.size w w' := by
  go_enter Tryz.func18, Tryz.ntmps18
  go_wp2_with fail
  go_ret
  exact ⟨rfl, Below.refl _ _⟩

theorem dg_config {w : World} {B b k : Nat} (c0 : w.cell? ⟨B, 0, none⟩ = some (.int .i64 b)) (c1 : w.cell? ⟨B, 1, none⟩ = some (.int .i64 k)) :
    Calls Tryz.prog 30 #[.pointer (some ⟨B, 0, none⟩)] w fun e w' => e = .returned (.agg #[.int .i64 b, .int .i64 k]) ∧ Below w.heap.size w w' := by
  have hB := World.block_lt_of_cell? (a := ⟨B, 0, none⟩) w c0
  simp only at hB
  have hb : Below w.heap.size w (w.alloc (.cells #[.int .i64 b, .int .i64 k] 23)) := (Below.refl _ _).alloc (Nat.le_refl _) _
  go_enter Tryz.func30, Tryz.ntmps30
  go_wp2_with fail
  refine bodyPost_ret (v := .agg #[.int .i64 b, .int .i64 k]) (by simp [results, Tryz.results30, go_sem]) rfl ⟨rfl, ?_⟩
  first | exact hb | exact (Below.refl _ _).alloc (Nat.le_refl _) _ | exact (((Below.refl _ _).alloc (Nat.le_refl _) _).setCell (by simp) _).setCell (by simp) _

theorem dg_config_nil (w : World) : Calls Tryz.prog 30 #[.pointer none] w fun e w' => e = .returned (.agg #[.int .i64 0, .int .i64 0]) ∧ Below w.heap.size w w' := by
  go_enter Tryz.func30, Tryz.ntmps30
  go_wp2_with fail
  refine bodyPost_ret (v := .agg #[.int .i64 0, .int .i64 0]) (by simp [results, Tryz.results30, go_sem]) rfl ⟨rfl, ?_⟩
  first | exact (Below.refl _ _).alloc (Nat.le_refl _) _ | exact (((Below.refl _ _).alloc (Nat.le_refl _) _).setCell (by simp) _).setCell (by simp) _

theorem dg_cmost (w : World) (d f : Int) (f0 : 0 ≤ f) (f1 : f ≤ 1000) : Calls Tryz.prog 50 #[.agg #[.int .i64 d, .int .i64 f]] w fun e w' => e = .returned (.int .i64 (4 * f)) ∧ Below w.heap.size w w' := by
  have hb : Below w.heap.size w (w.alloc (.cells #[.int .i64 d, .int .i64 f] 23)) := (Below.refl _ _).alloc (Nat.le_refl _) _
  go_enter Tryz.func50, Tryz.ntmps50
  go_wp2_with fail
  go_ret
  exact ⟨rfl, hb⟩

theorem dg_limit (w : World) (d : Int) (k : Nat) (n q : Int) (k1 : 1 ≤ k) (k2 : k ≤ 1000) (n0 : 0 ≤ n) (n1 : n < 18446744073709551616) (hq : n / k = q) : Calls Tryz.prog 69 #[.agg #[.int .i64 d, .int .i64 k], .int .u64 n] w fun e w' => e = .returned (.int .u64 q) ∧ Below w.heap.size w w' := by
  have hb : Below w.heap.size w (w.alloc (.cells #[.int .i64 d, .int .i64 k] 23)) := (Below.refl _ _).alloc (Nat.le_refl _) _
  have HQ := Lib.hid hq
  have k3 : ¬ (k : Int) = 0 := by omega
  have k4 : ((k : Int) == 0) = false := by simp; omega
  clear hq
  go_enter Tryz.func69, Tryz.ntmps69
  go_wp2_with fail
  go_ret
  exact ⟨by rw [← HQ.out]; rfl, hb⟩

theorem dg_most {w : World} {B b k : Nat} (c0 : w.cell? ⟨B, 0, none⟩ = some (.int .i64 b)) (c1 : w.cell? ⟨B, 1, none⟩ = some (.int .i64 k)) (hk : k ≤ 1000) :
    Calls Tryz.prog 29 #[.pointer (some ⟨B, 0, none⟩)] w fun e w' => e = .returned (.int .i64 (4 * (k : Int))) ∧ Below w.heap.size w w' := by
  have HC := Lib.hid (dg_config c0 c1)
  have HM := Lib.hid (fun W => dg_cmost W b k (by omega) (by omega))
  clear c0 c1
  go_enter Tryz.func29, Tryz.ntmps29
  go_wp2_with fail
  refine HC.out.mono ?_
  rintro e w1 ⟨rfl, b1⟩
  go_wp2_with fail
  refine (HM.out _).mono ?_
  rintro e w2 ⟨rfl, b2⟩
  go_wp2_with fail
  go_ret
  exact ⟨rfl, b1.trans (b2.mono b1.size)⟩

theorem dg_most_nil (w : World) : Calls Tryz.prog 29 #[.pointer none] w fun e w' => e = .returned (.int .i64 0) ∧ Below w.heap.size w w' := by
  have HC := Lib.hid (dg_config_nil w)
  have HM := Lib.hid (fun W => dg_cmost W 0 0 (by omega) (by omega))
  go_enter Tryz.func29, Tryz.ntmps29
  go_wp2_with fail
  refine HC.out.mono ?_
  rintro e w1 ⟨rfl, b1⟩
  go_wp2_with fail
  refine (HM.out _).mono ?_
  rintro e w2 ⟨rfl, b2⟩
  go_wp2_with fail
  go_ret
  exact ⟨rfl, b1.trans (b2.mono b1.size)⟩

set_option maxHeartbeats 400000 in
theorem dg_ends {St : StT} (D : StripDoes St) {w : World} {B C : Nat} {S1 : Nat → Prop} {b k : Nat} {R : List PairV} {lo hi : Int} (x : DgRaw St w B C S1 b k R lo hi) (hR : RowG b R) (hl : R.length ≤ 900) (a c : Int) (z : Bool) (he : (if R = [] then (0, 0, false) else (lo, hi, true)) = (a, c, z)) :
    Calls Tryz.prog 15 #[.pointer (some ⟨B, 0, none⟩)] w fun e w' => e = .returned (.tuple #[.int .i64 a, .int .i64 c, .bool z]) ∧ Below w.heap.size w w' := by
  obtain ⟨n, hn⟩ : ∃ n, sumP R = n := ⟨_, rfl⟩
  have HT := Lib.hid (dg_total D x hl n hn)
  obtain ⟨s0, s1⟩ := rowg_sum0 hR
  rw [hn] at s0 s1
  have HC := Lib.hid x.cells
  by_cases h0 : R = []
  · rw [if_pos h0] at he
    obtain ⟨rfl, rfl, rfl⟩ : 0 = a ∧ 0 = c ∧ false = z := by simpa using he
    obtain rfl : n = 0 := s1.2 h0
    clear he s1 h0 hn x hR
    go_enter Tryz.func15, Tryz.ntmps15
    go_wp2_with fail
    refine HT.out.mono ?_
    rintro e w1 ⟨rfl, b1⟩
    go_wp2_with fail
    exact bodyPost_ret (v := .tuple #[.int .i64 0, .int .i64 0, .bool false]) (by simp [results, Tryz.results15, go_sem]) rfl ⟨rfl, b1⟩
  · rw [if_neg h0] at he
    obtain ⟨rfl, rfl, rfl⟩ : lo = a ∧ hi = c ∧ true = z := by simpa using he
    have n0 : (n == 0) = false := by
      rw [beq_eq_false_iff_ne]
      exact fun e => h0 (s1.1 e)
    clear he s1 h0 hn x hR
    go_enter Tryz.func15, Tryz.ntmps15
    go_wp2_with fail
    refine HT.out.mono ?_
    rintro e w1 ⟨rfl, b1⟩
    have q4 := (HC.out.call b1).c4
    have q5 := (HC.out.call b1).c5
    go_wp2_with fail
    go_quiet (fail)
    go_wp2_with fail
    exact bodyPost_ret (v := .tuple #[.int .i64 lo, .int .i64 hi, .bool true]) (by simp [results, Tryz.results15, go_sem]) rfl ⟨rfl, below_drewN b1 _⟩

theorem dg_ends_nil (w : World) : Calls Tryz.prog 15 #[.pointer none] w fun e w' => e = .returned (.tuple #[.int .i64 0, .int .i64 0, .bool false]) ∧ Below w.heap.size w w' := by
  have HT := Lib.hid (dg_total_nil w)
  go_enter Tryz.func15, Tryz.ntmps15
  go_wp2_with fail
  refine HT.out.mono ?_
  rintro e w1 ⟨rfl, b1⟩
  go_wp2_with fail
  exact bodyPost_ret (v := .tuple #[.int .i64 0, .int .i64 0, .bool false]) (by simp [results, Tryz.results15, go_sem]) rfl ⟨rfl, b1⟩
end Go.Proofs.YthjcdbnjmpjikaaGreat

/-
  Walks: package digest: reach, pour, filled.
-/
namespace Go.Proofs.YthjcdbnjmpjikaaGreat
set_option linter.unusedVariables false
set_option linter.unusedSimpArgs false
open Go.RowKit

def reLoD (s : Bool) (y lo : Int) : Int := if s = true then min y lo else y
def reHiD (s : Bool) (z hi : Int) : Int := if s = true then max z hi else z
theorem reD_i64 {s : Bool} {y lo : Int} (hy : I64 y) (hl : I64 lo) : I64 (reLoD s y lo) ∧ I64 (reHiD s y lo) := by
  unfold reLoD reHiD
  obtain ⟨a, b⟩ := hy
  obtain ⟨c, d⟩ := hl
  cases s with
  | true => rw [if_pos rfl, if_pos rfl]; exact ⟨⟨by omega, by omega⟩, ⟨by omega, by omega⟩⟩
  | false => rw [if_neg (by simp), if_neg (by simp)]; exact ⟨⟨a, b⟩, ⟨a, b⟩⟩

set_option maxHeartbeats 1000000 in
theorem dg_reach {St : StT} (D : StripDoes St) {w : World} {B C : Nat} {S1 : Nat → Prop} {b k : Nat} {R : List PairV} {lo hi : Int} (x : DgRaw St w B C S1 b k R lo hi) (y z : Int) (s : Bool) (hy : I64 y) (hz : I64 z) :
    Calls Tryz.prog 44 #[.pointer (some ⟨B, 0, none⟩), .int .i64 y, .int .i64 z, .bool s] w fun e w' => e = .returned (.tuple #[]) ∧ DgRaw St w' B C S1 b k R (reLoD s y lo) (reHiD s z hi) ∧ Keeps (fun i => i = B) w w' := by
  have HD := Lib.hid D
  obtain ⟨c0, c1, c2, c3, c4, c5⟩ := x.cells
  have f4 : w.frozen? ⟨B, 4, none⟩ = false := Joins.unfrozen_of_block x.blk 4
  have f5 : w.frozen? ⟨B, 5, none⟩ = false := Joins.unfrozen_of_block x.blk 5
  have fin : ∀ (W : World) (a c : Int), Below w.heap.size w W → DgRaw St ((W.setCell ⟨B, 4, none⟩ (.int .i64 a)).setCell ⟨B, 5, none⟩ (.int .i64 c)) B C S1 b k R a c ∧ Keeps (fun i => i = B) w ((W.setCell ⟨B, 4, none⟩ (.int .i64 a)).setCell ⟨B, 5, none⟩ (.int .i64 c)) := fun W a c hb => by
    have hrW := x.call HD.out hb
    have hne : ∀ i, i ≠ B → ((W.setCell ⟨B, 4, none⟩ (.int .i64 a)).setCell ⟨B, 5, none⟩ (.int .i64 c)).heap[i]? = W.heap[i]? := fun i hi' => by
      rw [Below.heap_setCell _ _ _ i hi', Below.heap_setCell _ _ _ i hi']
    refine ⟨⟨?_, HD.out.keep _ _ _ _ _ _ hrW.st fun i hi' => hne i (fun e => hrW.n1 (e ▸ hi')), x.n1⟩, keepsD_then (Keeps.of_below hb) (keepsD_then (keepsD_put (S := fun i => i = B) rfl) (keepsD_put (S := fun i => i = B) rfl) (fun i _ h => h)) (fun i _ h => h)⟩
    rw [Joins.block_setCell (Joins.block_setCell hrW.blk _)]; rfl
  have FIN := Lib.hid fin
  clear fin x
  obtain ⟨y0, y1⟩ := hy
  obtain ⟨z0, z1⟩ := hz
  cases s with
  | true =>
    have e1 : reLoD true y lo = min y lo := rfl
    have e2 : reHiD true z hi = max z hi := rfl
    rw [e1, e2]
    clear e1 e2
    go_enter Tryz.func44, Tryz.ntmps44
    go_wp2_with fail
    go_quiet (fail)
    go_wp2_with fail
    have hdr : Below w.heap.size w (w.drewN nq) := below_drewN (Below.refl _ _) nq
    first | exact bodyPost_ret (results_none rfl _ _ _) rfl ⟨rfl, FIN.out _ _ _ hdr⟩ | exact bodyPost_end (results_none rfl _ _ _) rfl ⟨rfl, FIN.out _ _ _ hdr⟩
  | false =>
    have e1 : reLoD false y lo = y := rfl
    have e2 : reHiD false z hi = z := rfl
    rw [e1, e2]
    clear e1 e2
    go_enter Tryz.func44, Tryz.ntmps44
    go_wp2_with fail
    first | exact bodyPost_ret (results_none rfl _ _ _) rfl ⟨rfl, FIN.out _ _ _ (Below.refl _ _)⟩ | exact bodyPost_end (results_none rfl _ _ _) rfl ⟨rfl, FIN.out _ _ _ (Below.refl _ _)⟩

set_option maxRecDepth 100000 in
set_option maxHeartbeats 4000000 in
theorem dg_pour {St : StT} (D : StripDoes St) (w : World) (C : Nat) (S : Nat → Prop) (K : List PairV) (A : Option Addr) (cap : Nat) (L : List PairV) (h : St w C S 4096 K) (hP : Pairs w A L) (hpos : ∀ p, p ∈ L → 1 ≤ p.2)
    (hA : ∀ b off, A = some ⟨b, off, none⟩ → L ≠ [] → ¬ S b) (hl : K.length + L.length ≤ 800) (hs : sumP K + sumP L ≤ 9223372036854775807) :
    Calls Tryz.prog 43 #[.pointer (some ⟨C, 0, none⟩), .slice A L.length cap] w fun e w' => e = .returned (.tuple #[]) ∧ ∃ S', St w' C S' 4096 (joinD K L) ∧ Keeps S w w' ∧ ∀ i, S' i → S i ∨ w.heap.size ≤ i := by
  have HD := Lib.hid D
  have HH := Lib.hid h
  have HP := Lib.hid hP
  have HPOS := Lib.hid hpos
  have HA := Lib.hid hA
  have hst := D.stp _ _ _ _ _ h
  have hp0 : ∀ p, p ∈ L → 0 ≤ p.2 := fun p hp => by have := hpos p hp; omega
  have HJ : Hid (∀ j, sumP (joinD K (L.take j)) = sumP K + sumP (L.take j) ∧ (joinD K (L.take j)).length ≤ 800 ∧ sumP (L.take j) ≤ sumP L) := Lib.hid fun j => by
    have h1 := sumP_take (L := L) j hp0
    have h2 := joinD_sum (K := K) (L := L.take j) hst.good (fun p hp => hpos p (List.mem_of_mem_take hp)) (by omega)
    have h3 := joinD_len K (L.take j)
    have h4 := List.length_take_le j L
    exact ⟨h2, by have := List.length_take_le' j L; omega, h1.2⟩
  obtain ⟨n, hn⟩ : ∃ n : Nat, L.length = n := ⟨_, rfl⟩
  rw [hn]
  have HN := Lib.hid hn
  rw [hn] at hl
  have hl' : n ≤ 800 := by omega
  generalize sumP K = sk at *
  clear h hP hpos hA hst hp0 hn D hl
  go_enter Tryz.func43, Tryz.ntmps43
  go_wp2_with fail
  go_loopw [8] (fun j wr => ∃ (k : Nat) (Sk : Nat → Prop), k ≤ n ∧ j = .int .i64 k ∧ St wr C Sk 4096 (joinD K (L.take k)) ∧ Keeps S w wr ∧ (∀ i, Sk i → S i ∨ w.heap.size ≤ i)) (fun j _ => n - (intOf j).toNat)
  case atStart => exact ⟨0, S, Nat.zero_le _, rfl, HH.out, Keeps.refl S w, fun i hi => Or.inl hi⟩
  case round =>
    obtain ⟨k, Sk, hk, rfl, hst, hkp, hsk⟩ := hrel
    obtain ⟨j1, j2, _⟩ := HJ.out k
    have HSK := Lib.hid hst
    have HKP := Lib.hid hkp
    have HSS := Lib.hid hsk
    have hz := hkp.size
    clear hst hkp hsk
    by_cases hlt : k < n
    · have kl : (k : Int) < n := by omega
      have hxk : L[k]? = some (L[k]'(by rw [HN.out]; exact hlt)) := List.getElem?_eq_getElem _
      generalize hit : L[k]'(by rw [HN.out]; exact hlt) = p at *
      obtain ⟨px, pc⟩ := p
      have hPr := pairsD_past HP.out HKP.out HA.out
      obtain ⟨bb, off, rfl, hbl, c0, c1⟩ := hPr.at_ k _ hxk
      have hok := HP.out.ok _ (List.mem_of_getElem? hxk)
      have hpc := HPOS.out _ (List.mem_of_getElem? hxk)
      have HIX := Lib.hid hok.1
      have HCW := Lib.hid hok.2
      have HXK := Lib.hid hxk
      obtain ⟨⟨o1, o2⟩, o3, o4⟩ := hok
      simp only at c0 c1 o1 o2 o3 o4 hpc HIX HCW
      have hfit : sk + sumP (L.take k) + pc ≤ 9223372036854775807 := by
        have h1 := (HJ.out (k + 1)).2.2
        rw [sumD_step HXK.out] at h1
        simp only at h1
        omega
      have hbn : Below wr.heap.size wr (wr.alloc (.cells #[.int .i64 px, .int .u64 pc] 61)) := (Below.refl _ _).alloc (Nat.le_refl _) _
      have hadd := HD.out.add _ C Sk 4096 (joinD K (L.take k)) px pc (by have hlt := HD.out.lt _ _ _ _ _ HSK.out; exact HD.out.keep _ _ _ _ _ _ HSK.out fun i hi => hbn.block i (hlt i hi)) (by omega) HIX.out HCW.out
      have HBN := Lib.hid hbn
      have hzn : (wr.alloc (.cells #[.int .i64 px, .int .u64 pc] 61)).heap.size = wr.heap.size + 1 := by simp
      have HZN := Lib.hid hzn
      rw [sterrD_ok (by omega) (by omega) (by omega), strowD_ok (by omega) (by omega) (by omega)] at hadd
      have HADD := Lib.hid hadd
      have HJT : Hid (joinD K (L.take (k + 1)) = addP (joinD K (L.take k)) px pc) := Lib.hid (joinD_take HXK.out)
      clear hxk hit hPr hbn hzn hadd j1 j2 hfit
      go_wp2_with fail
      refine HADD.out.mono ?_
      rintro e w6 ⟨S6, rfl, hst6, hk6, hS6⟩
      rw [← HJT.out] at hst6
      have HST6 := Lib.hid hst6
      have hkk : Keeps S w w6 := keepsD_then HKP.out (keepsD_then (S := Sk) (Keeps.of_below HBN.out) hk6 (fun i _ h => h)) (fun i hi h => by
        rcases HSS.out i h with a | a
        · exact a
        · omega)
      have hss : ∀ i, S6 i → S i ∨ w.heap.size ≤ i := fun i hi => by
        rcases hS6 i hi with a | a
        · exact HSS.out i a
        · rw [HZN.out] at a; exact Or.inr (by omega)
      have HKK := Lib.hid hkk
      have HS6 := Lib.hid hss
      clear hst6 hk6 hS6 hkk hss HADD HSK HKP HBN HZN
      go_wp2_with fail
      go_roundw
      case rel => exact ⟨k + 1, S6, by omega, by go_num, HST6.out, HKK.out, HS6.out⟩
      case measure => simp [intOf]; omega
    · obtain rfl : k = n := by omega
      have kl : ¬ (k : Int) < k := by omega
      rw [List.take_of_length_le (by rw [HN.out]; exact Nat.le_refl k)] at HSK
      go_wp2_with fail
      first
      | (go_end0; exact ⟨rfl, Sk, HSK.out, HKP.out, HSS.out⟩)
      | exact bodyPost_ret (results_none rfl _ _ _) rfl ⟨rfl, Sk, HSK.out, HKP.out, HSS.out⟩

set_option maxHeartbeats 1000000 in
theorem dg_filled {St : StT} (D : StripDoes St) (w : World) (A : Option Addr) (cap : Nat) (L : List PairV) (hP : Pairs w A L) (hg : GoodP L) (hl : L.length ≤ 700) (hs : sumP L ≤ 9223372036854775807) :
    Calls Tryz.prog 54 #[.slice A L.length cap] w fun e w' => ∃ C S, e = .returned (.pointer (some ⟨C, 0, none⟩)) ∧ St w' C S 4096 L ∧ (∀ i, S i → w.heap.size ≤ i) ∧ Below w.heap.size w w' := by
  have HN := Lib.hid (D.new w 4096 (by omega) (by omega))
  have HPO := Lib.hid (fun W C S (h : St W C S 4096 []) (hb : Below w.heap.size w W) (hS : ∀ i, S i → w.heap.size ≤ i) => dg_pour D W C S [] A cap L h (hP.call hb) (fun p hp => (hg.1 p hp).1) (fun b off e hne hSb => by
    cases L with
    | nil => exact absurd rfl hne
    | cons p q =>
      obtain ⟨b', off', e', hlt, _, _⟩ := hP.at_ 0 p rfl
      rw [e] at e'
      obtain ⟨rfl, _, _⟩ := Addr.mk.inj (Option.some.inj e')
      have := hS b hSb
      omega) (by simp; omega) (by rw [sumP_nil]; omega))
  have hJ : joinD [] L = L := joinD_load hg
  rw [hJ] at HPO
  obtain ⟨n, hn⟩ : ∃ n : Nat, L.length = n := ⟨_, rfl⟩
  rw [hn] at HPO ⊢
  clear hJ hP hg hl hs hn D
  go_enter Tryz.func54, Tryz.ntmps54
  go_wp2_with fail
  refine HN.out.mono ?_
  rintro e w1 ⟨C, S, rfl, h1, hs1, b1⟩
  have HB1 := Lib.hid b1
  have HS1 := Lib.hid hs1
  have HP1 := Lib.hid (HPO.out w1 C S h1 b1 hs1)
  clear h1 hs1 b1
  go_wp2_with fail
  refine HP1.out.mono ?_
  rintro e w2 ⟨rfl, S', h2, hk2, hs2⟩
  have HB2 := Lib.hid (Keeps.below HB1.out hk2 HB1.out.size HS1.out)
  have HS2 := Lib.hid (fun i (hi : S' i) => show w.heap.size ≤ i by
    rcases hs2 i hi with a | a
    · exact HS1.out i a
    · have := HB1.out.size; omega)
  have H2 := Lib.hid h2
  clear h2 hk2 hs2
  go_wp2_with fail
  go_ret
  exact ⟨C, S', rfl, H2.out, HS2.out, HB2.out⟩
end Go.Proofs.YthjcdbnjmpjikaaGreat

/-
  A row of nodes as a map's datum: what is looked up, put, taken away, and its keys in order: no program in sight.
-/
namespace Go.Proofs.YthjcdbnjmpjikaaGreat
set_option linter.unusedVariables false
set_option linter.unusedSimpArgs false

/-- One entry; all entries of a row; the row as a datum. -/
def entD (p : PairV) : Lit × DataW Unit := (Lit.int .i64 p.1, DataW.lit (.int .u64 p.2))
def mapD (R : List PairV) : DataW Unit := .map (R.map entD)
theorem mapD_nil : mapD [] = .map [] := rfl
theorem mapD_size (R : List PairV) : Maps.size (mapD R) = R.length := by show (R.map entD).length = _; rw [List.length_map]
theorem ent_same (p : PairV) (i : Int) : (entD p).1.sameKey (.int .i64 i) = (p.1 == i) := by
  show decide (IntKind.i64 = IntKind.i64 ∧ p.1 = i) = (p.1 == i)
  by_cases h : p.1 = i
  · simp [h]
  · simp [h]
theorem count_none {R : List PairV} {i : Int} (h : ∀ p, p ∈ R → p.1 ≠ i) : countP R i = 0 := by
  unfold countP
  rw [List.filter_eq_nil_iff.2 fun p hp => by have := h p hp; simpa using this]; rfl
/-- What is looked up. -/
def atD (R : List PairV) (i : Int) : DataW Unit := match (R.map entD).find? (fun p => p.1.sameKey (.int .i64 i)) with | some p => p.2 | none => .lit (.int .u64 0)
theorem atD_is : ∀ {R : List PairV} (i : Int), GoodP R → atD R i = .lit (.int .u64 (countP R i))
  | [], i, _ => rfl
  | p :: r, i, h => by
    have hr : GoodP r := ⟨fun q hq => h.1 q (List.mem_cons_of_mem _ hq), (List.pairwise_cons.1 h.2).2⟩
    have ih := atD_is (R := r) i hr
    have hc := count_cons p r i
    unfold atD at ih ⊢
    rw [List.map_cons]
    by_cases c : p.1 = i
    · rw [List.find?_cons_of_pos (by rw [ent_same]; simpa using c)]
      have hn : countP r i = 0 := count_none fun q hq => by have := (List.pairwise_cons.1 h.2).1 q hq; omega
      rw [if_pos c, hn, Int.add_zero] at hc
      rw [hc]; rfl
    · rw [List.find?_cons_of_neg (by rw [ent_same]; simpa using c)]
      rw [if_neg c, Int.zero_add] at hc
      rw [hc]; exact ih
theorem mapD_at {R : List PairV} (i : Int) (h : GoodP R) : (mapD R).atKey (.int .i64 i) (.lit (.int .u64 0)) = .lit (.int .u64 (countP R i)) := by
  have e := atD_is i h
  unfold atD at e
  unfold mapD DataW.atKey
  simp only
  cases hf : (R.map entD).find? (fun p => p.1.sameKey (.int .i64 i)) with
  | none => rw [hf] at e; exact e
  | some p => rw [hf] at e; exact e
/-- An index taken away. -/
def dropD (R : List PairV) (i : Int) : List PairV := R.filter fun p => !(p.1 == i)
theorem mapD_del (R : List PairV) (i : Int) : (mapD R).del (.int .i64 i) = mapD (dropD R i) := by
  unfold mapD dropD DataW.del
  simp only
  rw [List.filter_map]
  congr 2
  refine List.filter_congr fun p _ => ?_
  show (!(entD p).1.sameKey (.int .i64 i)) = !(p.1 == i)
  rw [ent_same]
theorem ins_ent : ∀ {R : List PairV} (i c : Int), (R.Pairwise fun p q => p.1 < q.1) → DataW.insert (entD (i, c)) ((dropD R i).map entD) = (lowP R i ++ (i, c) :: highP R i).map entD
  | [], i, c, _ => rfl
  | p :: r, i, c, h => by
    obtain ⟨h1, h2⟩ := List.pairwise_cons.1 h
    have ih := ins_ent (R := r) i c h2
    unfold dropD lowP highP at ih ⊢
    have hall : ∀ j : Int, j ≤ p.1 → (r.filter fun q => !(q.1 == j)) = r ∧ (r.filter fun q => decide (q.1 < j)) = [] ∧ (r.filter fun q => decide (j < q.1)) = r := fun j hj =>
      ⟨List.filter_eq_self.2 fun q hq => by have := h1 q hq; have : q.1 ≠ j := by omega
                                            simpa using this,
       List.filter_eq_nil_iff.2 fun q hq => by have := h1 q hq; simp; omega,
       List.filter_eq_self.2 fun q hq => by have := h1 q hq; simp; omega⟩
    rcases Int.lt_trichotomy p.1 i with k | k | k
    · rw [List.filter_cons_of_pos (by simp; omega), List.filter_cons_of_pos (by simpa using k), List.filter_cons_of_neg (by simp; omega), List.map_cons]
      unfold DataW.insert
      rw [if_neg (by show ¬ Lit.before (.int .i64 i) (.int .i64 p.1) = true; unfold Lit.before; simp; omega), ih]
      rfl
    · obtain ⟨e1, e2, e3⟩ := hall i (by omega)
      rw [List.filter_cons_of_neg (by simpa using k), List.filter_cons_of_neg (by simp; omega), List.filter_cons_of_neg (by simp; omega), e1, e2, e3]
      cases r with
      | nil => rfl
      | cons q s =>
        have := h1 q List.mem_cons_self
        rw [List.map_cons]
        unfold DataW.insert
        rw [if_pos (by show Lit.before (.int .i64 i) (.int .i64 q.1) = true; unfold Lit.before; simp; omega)]
        rfl
    · obtain ⟨e1, e2, e3⟩ := hall i (by omega)
      rw [List.filter_cons_of_pos (by simp; omega), List.filter_cons_of_neg (by simp; omega), List.filter_cons_of_pos (by simpa using k), e1, e2, e3, List.map_cons]
      unfold DataW.insert
      rw [if_pos (by show Lit.before (.int .i64 i) (.int .i64 p.1) = true; unfold Lit.before; simp; omega)]
      rfl
/-- An index put. -/
theorem mapD_put {R : List PairV} (i c : Int) (h : GoodP R) : (mapD R).put (.int .i64 i) (.lit (.int .u64 c)) = mapD (lowP R i ++ (i, c) :: highP R i) := by
  have e := ins_ent (R := R) i c h.2
  have d := mapD_del R i
  unfold mapD DataW.del at d
  simp only at d
  unfold mapD DataW.put
  simp only
  rw [DataW.map.inj d]
  show DataW.map (DataW.insert (entD (i, c)) ((dropD R i).map entD)) = _
  rw [e]
/-- The next pair of a row in order. -/
theorem mapD_next {R : List PairV} {n : Nat} {p : PairV} (h : GoodP R) (hp : R[n]? = some p) : (mapD (R.take n)).put (.int .i64 p.1) (.lit (.int .u64 p.2)) = mapD (R.take (n + 1)) := by
  have hg := good_take (n + 1) h
  rw [take_snocP hp] at hg
  have h3 := (good_app hg).2.2
  have hlow : ∀ q, q ∈ R.take n → q.1 < p.1 := fun q hq => h3 q hq p (by simp)
  rw [mapD_put _ _ (good_take n h), take_snocP hp]
  congr 1
  unfold lowP highP
  rw [List.filter_eq_self.2 fun q hq => by simpa using hlow q hq, List.filter_eq_nil_iff.2 fun q hq => by have := hlow q hq; simp; omega]
/-- What goes up, by the map: two taken away, the third one put. -/
theorem mapD_lift {q : Int} {R : List PairV} {v : Int} (h : GoodP R) (hv : 1 ≤ v) (hl : liftB q R v = true) : (mapD (dropD (dropD R v) (sibD v))).put (.int .i64 (v / 2)) (.lit (.int .u64 (triD R v))) = mapD (liftD q R v) := by
  rw [mapD_put (R := dropD (dropD R v) (sibD v)) _ _ (good_filter _ (good_filter _ h))]
  congr 1
  have hp : 0 < triD R v := by
    have h1 := (liftB_is hl).2.1
    have h2 := count_posD h v
    have h3 := count_posD h (sibD v)
    have h4 := count_posD h (v / 2)
    unfold triD; omega
  unfold liftD
  rw [if_pos hl]
  unfold addP
  rw [count_rest, Int.zero_add]
  unfold midP
  rw [if_pos hp]
  have e1 : lowP (dropD (dropD R v) (sibD v)) (v / 2) = lowP (restD R v (sibD v) (v / 2)) (v / 2) := by
    unfold lowP dropD restD
    rw [List.filter_filter, List.filter_filter, List.filter_filter]
    refine List.filter_congr fun p _ => ?_
    by_cases c : p.1 < v / 2
    · have : (p.1 == v / 2) = false := by simp; omega
      rw [this, decide_eq_true c]; cases p.1 == v <;> cases p.1 == sibD v <;> rfl
    · rw [decide_eq_false c]; simp
  have e2 : highP (dropD (dropD R v) (sibD v)) (v / 2) = highP (restD R v (sibD v) (v / 2)) (v / 2) := by
    unfold highP dropD restD
    rw [List.filter_filter, List.filter_filter, List.filter_filter]
    refine List.filter_congr fun p _ => ?_
    by_cases c : v / 2 < p.1
    · have : (p.1 == v / 2) = false := by simp; omega
      rw [this, decide_eq_true c]; cases p.1 == v <;> cases p.1 == sibD v <;> rfl
    · rw [decide_eq_false c]; simp
  rw [e1, e2]; rfl
/-- The keys of a row's map, sorted. -/
theorem keys_sorted {R : List PairV} (h : GoodP R) {ss : List Int} (hs : ss.Perm (R.map fun p => p.1)) : ss.mergeSort (fun x y => decide (x ≤ y)) = R.map fun p => p.1 := by
  have hm := List.mergeSort_perm ss (fun x y => decide (x ≤ y))
  have hp : (ss.mergeSort fun x y => decide (x ≤ y)).Pairwise fun x y => decide (x ≤ y) = true :=
    List.pairwise_mergeSort (fun a b c h1 h2 => by simp at *; omega) (fun a b => by simp; omega) ss
  have hr : (R.map fun p => p.1).Pairwise fun x y => decide (x ≤ y) = true := List.pairwise_map.2 (h.2.imp fun {a b} hab => by simp; omega)
  exact List.Perm.eq_of_pairwise (le := fun x y => decide (x ≤ y) = true) (fun a b _ _ h1 h2 => by simp at h1 h2; omega) hp hr (hm.trans hs)
end Go.Proofs.YthjcdbnjmpjikaaGreat

/-
  Package tree as it landed: what each of its functions does.
-/
namespace Go.Proofs.YthjcdbnjmpjikaaGreat
set_option linter.unusedVariables false
set_option linter.unusedSimpArgs false
open Go.RowKit Go.Joins

theorem bit_len {n : Nat} (h : 1 ≤ n) (h2 : n < 2 ^ 64) : Lib.bitLen n = lvlT n + 1 := by
  obtain ⟨a, b, c⟩ := Lib.bitLenAux_bounds 64 n h2 (by omega)
  have e : Lib.bitLen n = Lib.bitLenAux 64 n := rfl
  rw [e]
  generalize Lib.bitLenAux 64 n = L at *
  have := lvl_is (v := n) (l := L - 1) b (by rw [show L - 1 + 1 = L by omega]; exact c)
  omega

theorem xor_i64 (a b : Nat) (ha : a < 4611686018427387904) (hb : b < 4611686018427387904) : bits .xor .i64 (a : Int) (b : Int) = ((a ^^^ b : Nat) : Int) := by
  have ha' : a % 2 ^ IntKind.i64.bits = a := Nat.mod_eq_of_lt (Nat.lt_trans ha (by decide))
  have hb' : b % 2 ^ IntKind.i64.bits = b := Nat.mod_eq_of_lt (Nat.lt_trans hb (by decide))
  simp only [bits, BitVec.ofInt_natCast, BitVec.toNat_xor, BitVec.toNat_ofNat, ha', hb']
  have := Nat.xor_lt_two_pow (n := 62) ha hb
  rw [IntKind.wrap_i64]; omega

theorem xor_one (n : Nat) : n ^^^ 1 = if n % 2 = 0 then n + 1 else n - 1 := by
  have h1 : (n ^^^ 1) / 2 = n / 2 := by rw [Nat.xor_div_two]; exact Nat.xor_zero _
  have h2 : (n ^^^ 1) % 2 = 1 ↔ ¬ (n % 2 = 1 ↔ 1 % 2 = 1) := Nat.xor_mod_two_eq_one
  split <;> omega

theorem box_below (w : World) (x : Value) : Below w.heap.size w (w.alloc (.cells #[x] 79)) := (Below.refl _ _).alloc (Nat.le_refl _) _

theorem shl_pow (x : Int) (k : Nat) (hk : k ≤ 24) (r : Int) (hr : x * 2 ^ k = r) (hr1 : I64 r) : Op.shift .shl .i64 x .i64 (k : Int) = pure (.int .i64 r) := by
  rw [shift_shl_any _ _ _ _ (by omega)]
  have e : min (k : Int).toNat IntKind.i64.bits = k := by
    have : IntKind.i64.bits = 64 := rfl
    rw [this]; omega
  obtain ⟨r0, r1⟩ := hr1
  rw [e, hr, IntWalk.i64_in r (by omega)]

theorem pow64 {b lv : Nat} (hb : b ≤ 24) (h : 2 ^ b = lv) : wrap64 ((2 : Int) ^ b) = (lv : Int) := by
  have hl : lv ≤ 16777216 := by rw [← h]; exact (pow_bd hb).2
  have e2 : (2 : Int) ^ b = (lv : Int) := by rw [← h, Int.natCast_pow]; rfl
  rw [e2]; unfold wrap64; omega

theorem tnew_ok (w : World) (b : Nat) (hb1 : 1 ≤ b) (hb2 : b ≤ 24) : Calls Tryz.prog 51 #[.int .i64 b] w fun e w' => e = .returned (.tuple #[.agg #[.int .i64 b], .int .i64 0]) ∧ Below w.heap.size w w' := by
  have h1 : ¬ ((b : Int) < 1) := by omega
  have h2 : ¬ ((24 : Int) < (b : Int)) := by omega
  go_enter Tryz.func51, Tryz.ntmps51
  go_wp2_with fail
  refine bodyPost_ret (v := .tuple #[.agg #[.int .i64 b], .int .i64 0]) (by simp [results, Tryz.results51, go_sem]) rfl ⟨rfl, ?_⟩
  first | exact Below.refl _ _ | assumption | exact box_below _ _ | trace_state

theorem tdepth_any (w : World) (b : Nat) (hb1 : 1 ≤ b) (hb2 : b ≤ 24) : Calls Tryz.prog 79 #[.agg #[.int .i64 b]] w fun e w' => e = .returned (.int .i64 b) ∧ Below w.heap.size w w' := by
  have c0 := tree_cell w (.int .i64 b)
  have hB := box_below w (.int .i64 b)
  go_enter Tryz.func79, Tryz.ntmps79
  go_wp2_with fail
  go_ret
  exact ⟨rfl, by first | exact Below.refl _ _ | assumption⟩

theorem tleaves_any (w : World) (b : Nat) (hb1 : 1 ≤ b) (hb2 : b ≤ 24) : Calls Tryz.prog 59 #[.agg #[.int .i64 b]] w fun e w' => e = .returned (.int .i64 ((2 ^ b : Nat) : Int)) ∧ Below w.heap.size w w' := by
  obtain ⟨lv, hlv⟩ : ∃ lv : Nat, 2 ^ b = lv := ⟨_, rfl⟩
  have hlv1 : lv ≤ 16777216 := by rw [← hlv]; exact (pow_bd hb2).2
  have HW := Lib.hid (pow64 hb2 hlv)
  rw [hlv]
  have hz : ((b : Int) == 0) = false := by simp; omega
  have c0 := tree_cell w (.int .i64 b)
  have hB := box_below w (.int .i64 b)
  clear hlv
  go_enter Tryz.func59, Tryz.ntmps59
  go_wp2_with fail
  go_ret
  exact ⟨by show Ending.returned (Value.int .i64 (wrap64 (2 ^ b))) = _; rw [HW.out], by first | exact Below.refl _ _ | assumption⟩

theorem tree_later {w w' : World} {x : Value} (h : Below (w.alloc (.cells #[x] 79)).heap.size (w.alloc (.cells #[x] 79)) w') :
    w'.cell? ⟨w.heap.size, 0, none⟩ = some x ∧ Below w.heap.size w w' := ⟨cell_later h (tree_cell w x), (box_below w x).trans (h.mono (box_below w x).size)⟩

theorem tnew_no (w : World) (d : Int) (hd : I64 d) (h : ¬ (1 ≤ d ∧ d ≤ 24)) : Calls Tryz.prog 51 #[.int .i64 d] w fun e w' => ∃ x, e = .returned (.tuple #[.agg #[.int .i64 x], .int .i64 1]) ∧ Below w.heap.size w w' := by
  obtain ⟨d0, d1⟩ := hd
  by_cases h1 : d < 1
  · clear h
    go_enter Tryz.func51, Tryz.ntmps51
    go_wp2_with fail
    first
    | refine bodyPost_ret (v := .tuple #[.agg #[.int .i64 0], .int .i64 1]) (by simp [results, Tryz.results51, go_sem]) rfl ⟨0, rfl, ?_⟩
    | refine bodyPost_ret (v := .tuple #[.agg #[.int .i64 0], .int .i64 1]) (by simp [results, Tryz.results51, go_sem]) rfl ⟨⟨0, rfl⟩, ?_⟩
    first | exact Below.refl _ _ | assumption | exact box_below _ _ | trace_state
  · have h2 : 24 < d := by omega
    clear h
    go_enter Tryz.func51, Tryz.ntmps51
    go_wp2_with fail
    first
    | refine bodyPost_ret (v := .tuple #[.agg #[.int .i64 0], .int .i64 1]) (by simp [results, Tryz.results51, go_sem]) rfl ⟨0, rfl, ?_⟩
    | refine bodyPost_ret (v := .tuple #[.agg #[.int .i64 0], .int .i64 1]) (by simp [results, Tryz.results51, go_sem]) rfl ⟨⟨0, rfl⟩, ?_⟩
    first | exact Below.refl _ _ | assumption | exact box_below _ _ | trace_state

theorem tgood_any (w : World) (b : Nat) (v : Int) (hb1 : 1 ≤ b) (hb2 : b ≤ 24) (hv : I64 v) : Calls Tryz.prog 57 #[.agg #[.int .i64 b], .int .i64 v] w fun e w' => e = .returned (.bool (goodT b v)) ∧ Below w.heap.size w w' := by
  have HLV := Lib.hid (fun W => tleaves_any W b hb1 hb2)
  obtain ⟨lv, hlv⟩ : ∃ lv : Nat, 2 ^ b = lv := ⟨_, rfl⟩
  have hlv1 : lv ≤ 16777216 := by rw [← hlv]; exact (pow_bd hb2).2
  have e3 : (2 : Int) ^ (b + 1) = 2 * (lv : Int) := by
    have e : ((2 ^ (b + 1) : Nat) : Int) = 2 ^ (b + 1) := by rw [Int.natCast_pow]; rfl
    rw [← e, Nat.pow_succ, hlv]; omega
  rw [hlv] at HLV
  have HG : Hid (goodT b v = (decide (1 ≤ v) && decide (v < 2 * (lv : Int)))) := Lib.hid (by unfold goodT; rw [e3])
  have c0 := tree_cell w (.int .i64 b)
  have hB := box_below w (.int .i64 b)
  obtain ⟨v0, v1⟩ := hv
  clear hlv e3
  by_cases h1 : 0 < v
  · have HF : Hid (goodT b v = decide (v < 2 * (lv : Int))) := Lib.hid (by rw [HG.out, decide_eq_true (by omega : (1 : Int) ≤ v), Bool.true_and])
    go_enter Tryz.func57, Tryz.ntmps57
    go_wp2_with fail
    refine (HLV.out _).mono ?_
    rintro e w1 ⟨rfl, b1⟩
    have hb := hB.trans (b1.mono hB.size)
    go_wp2_with fail
    go_ret
    exact ⟨by rw [HF.out]; rfl, hb⟩
  · have HF : Hid (goodT b v = false) := Lib.hid (by rw [HG.out, decide_eq_false (by omega : ¬ (1 : Int) ≤ v), Bool.false_and])
    go_enter Tryz.func57, Tryz.ntmps57
    go_wp2_with fail
    go_ret
    exact ⟨by rw [HF.out]; rfl, hB⟩

theorem tleaf_in (w : World) (b : Nat) (x : Int) (hb1 : 1 ≤ b) (hb2 : b ≤ 24) (hx0 : 0 ≤ x) (hx1 : x < ((2 ^ b : Nat) : Int)) : Calls Tryz.prog 46 #[.agg #[.int .i64 b], .int .i64 x] w fun e w' => e = .returned (.tuple #[.int .i64 (((2 ^ b : Nat) : Int) + x), .bool true]) ∧ Below w.heap.size w w' := by
  have HLV := Lib.hid (fun W => tleaves_any W b hb1 hb2)
  obtain ⟨lv, hlv⟩ : ∃ lv : Nat, 2 ^ b = lv := ⟨_, rfl⟩
  have hlv1 : lv ≤ 16777216 := by rw [← hlv]; exact (pow_bd hb2).2
  rw [hlv] at HLV hx1 ⊢
  have n0 : ¬ (x < 0) := by omega
  have n1 : ¬ ((lv : Int) ≤ x) := by omega
  have c0 := tree_cell w (.int .i64 b)
  have hB := box_below w (.int .i64 b)
  clear hlv
  go_enter Tryz.func46, Tryz.ntmps46
  go_wp2_with fail
  refine (HLV.out _).mono ?_
  rintro e w1 ⟨rfl, b1⟩
  have hb := hB.trans (b1.mono hB.size)
  have c1 := cell_later b1 c0
  clear hB b1 c0
  go_wp2_with fail
  refine (HLV.out _).mono ?_
  rintro e w2 ⟨rfl, b2⟩
  have hb3 := hb.trans (b2.mono hb.size)
  clear hb b2 c1
  go_wp2_with fail
  go_ret2
  exact ⟨rfl, hb3⟩

theorem tleaf_out (w : World) (b : Nat) (x : Int) (hb1 : 1 ≤ b) (hb2 : b ≤ 24) (hx : I64 x) (h : ¬ (0 ≤ x ∧ x < ((2 ^ b : Nat) : Int))) : Calls Tryz.prog 46 #[.agg #[.int .i64 b], .int .i64 x] w fun e w' => e = .returned (.tuple #[.int .i64 0, .bool false]) ∧ Below w.heap.size w w' := by
  have HLV := Lib.hid (fun W => tleaves_any W b hb1 hb2)
  obtain ⟨lv, hlv⟩ : ∃ lv : Nat, 2 ^ b = lv := ⟨_, rfl⟩
  rw [hlv] at HLV h
  obtain ⟨x0, x1⟩ := hx
  have c0 := tree_cell w (.int .i64 b)
  have hB := box_below w (.int .i64 b)
  clear hlv
  by_cases n0 : x < 0
  · clear h
    go_enter Tryz.func46, Tryz.ntmps46
    go_wp2_with fail
    go_ret2
    exact ⟨rfl, hB⟩
  · have n1 : (lv : Int) ≤ x := by omega
    clear h
    go_enter Tryz.func46, Tryz.ntmps46
    go_wp2_with fail
    refine (HLV.out _).mono ?_
    rintro e w1 ⟨rfl, b1⟩
    have hb := hB.trans (b1.mono hB.size)
    clear hB b1 c0
    go_wp2_with fail
    go_ret2
    exact ⟨rfl, hb⟩

theorem tup_any (w : World) (b : Nat) (v : Int) (hb1 : 1 ≤ b) (hb2 : b ≤ 24) (hv : I64 v) : Calls Tryz.prog 113 #[.agg #[.int .i64 b], .int .i64 v] w fun e w' => e = .returned (.int .i64 (upI b v)) ∧ Below w.heap.size w w' := by
  have HG := Lib.hid (fun W => tgood_any W b v hb1 hb2 hv)
  have c0 := tree_cell w (.int .i64 b)
  have hB := box_below w (.int .i64 b)
  cases hg : goodT b v with
  | false =>
    have HU : Hid (upI b v = 0) := Lib.hid (by unfold upI; rw [hg]; rfl)
    rw [hg] at HG
    clear hg hv
    go_enter Tryz.func113, Tryz.ntmps113
    go_wp2_with fail
    refine (HG.out _).mono ?_
    rintro e w1 ⟨rfl, b1⟩
    have hb := hB.trans (b1.mono hB.size)
    go_wp2_with fail
    go_ret
    exact ⟨by rw [HU.out]; rfl, hb⟩
  | true =>
    have HU : Hid (upI b v = v / 2) := Lib.hid (by unfold upI; rw [if_pos hg])
    have v2 : 1 ≤ v := (good_nat hg).elim fun n hn => by omega
    rw [hg] at HG
    clear hg
    obtain ⟨v0, v1⟩ := hv
    go_enter Tryz.func113, Tryz.ntmps113
    go_wp2_with fail
    refine (HG.out _).mono ?_
    rintro e w1 ⟨rfl, b1⟩
    have hb := hB.trans (b1.mono hB.size)
    go_wp2_with fail
    go_ret
    exact ⟨by rw [HU.out]; rfl, hb⟩

theorem bes_is {n : Nat} (h : n < 4611686018427387904) : bits .xor .i64 (n : Int) 1 = if (n : Int) % 2 = 0 then (n : Int) + 1 else (n : Int) - 1 := by
  have e := xor_i64 n 1 h (by decide)
  rw [show ((1 : Nat) : Int) = 1 from rfl] at e
  rw [e, xor_one]
  by_cases c : n % 2 = 0
  · rw [if_pos c, if_pos (by omega)]; omega
  · rw [if_neg c, if_neg (by omega)]; omega

theorem tbeside_any (w : World) (b : Nat) (v : Int) (hb1 : 1 ≤ b) (hb2 : b ≤ 24) (hv : I64 v) : Calls Tryz.prog 114 #[.agg #[.int .i64 b], .int .i64 v] w fun e w' => e = .returned (.int .i64 (besI b v)) ∧ Below w.heap.size w w' := by
  have HG := Lib.hid (fun W => tup_any W b v hb1 hb2 hv)
  have c0 := tree_cell w (.int .i64 b)
  have hB := box_below w (.int .i64 b)
  by_cases hu : upI b v = 0
  · have HU : Hid (besI b v = 0) := Lib.hid (by
      unfold besI
      rw [if_neg]
      rintro ⟨g, h1⟩
      have v2 : 1 ≤ v := (good_nat g).elim fun n hn => by omega
      unfold upI at hu
      rw [if_pos g] at hu
      omega)
    rw [hu] at HG
    clear hu hv
    go_enter Tryz.func114, Tryz.ntmps114
    go_wp2_with fail
    refine (HG.out _).mono ?_
    rintro e w1 ⟨rfl, b1⟩
    have hb := hB.trans (b1.mono hB.size)
    go_wp2_with fail
    go_ret
    exact ⟨by rw [HU.out]; rfl, hb⟩
  · have hg : goodT b v = true := by
      cases hg : goodT b v with
      | true => rfl
      | false => exact absurd (by unfold upI; rw [hg]; rfl) hu
    have hg1 : upI b v = v / 2 := by unfold upI; rw [if_pos hg]
    obtain ⟨n, rfl, n1, n2⟩ := good_nat hg
    have n3 : n < 33554432 := by have := (pow_bd hb2).2; rw [Nat.pow_succ] at n2; omega
    have HU : Hid (bits .xor .i64 (n : Int) 1 = besI b n) := Lib.hid (by
      rw [bes_is (by omega)]
      unfold besI
      have h1 : (n : Int) ≠ 1 := fun h => hu (by rw [hg1, h]; rfl)
      rw [if_pos (c := goodT b (n : Int) = true ∧ (n : Int) ≠ 1) ⟨hg, h1⟩])
    obtain ⟨u, hu2⟩ : ∃ u, upI b n = u := ⟨_, rfl⟩
    rw [hu2] at HG hu
    have hz : (u == 0) = false := by simp; exact hu
    clear hg hg1 hu hu2 n1 n2 hv
    go_enter Tryz.func114, Tryz.ntmps114
    go_wp2_with fail
    refine (HG.out _).mono ?_
    rintro e w1 ⟨rfl, b1⟩
    have hb := hB.trans (b1.mono hB.size)
    go_wp2_with fail
    go_ret
    exact ⟨by show Ending.returned (Value.int .i64 (bits .xor .i64 (n : Int) 1)) = _; rw [HU.out], hb⟩

theorem tlevel_any (w : World) (b : Nat) (v : Int) (hb1 : 1 ≤ b) (hb2 : b ≤ 24) (hv : I64 v) : Calls Tryz.prog 58 #[.agg #[.int .i64 b], .int .i64 v] w fun e w' => e = .returned (.int .i64 (lvI b v)) ∧ Below w.heap.size w w' := by
  have HG := Lib.hid (fun W => tgood_any W b v hb1 hb2 hv)
  have c0 := tree_cell w (.int .i64 b)
  have hB := box_below w (.int .i64 b)
  cases hg : goodT b v with
  | false =>
    have HU : Hid (lvI b v = -1) := Lib.hid (by unfold lvI; rw [hg]; rfl)
    rw [hg] at HG
    clear hg hv
    go_enter Tryz.func58, Tryz.ntmps58
    go_wp2_with fail
    refine (HG.out _).mono ?_
    rintro e w1 ⟨rfl, b1⟩
    have hb := hB.trans (b1.mono hB.size)
    go_wp2_with fail
    go_ret
    exact ⟨by rw [HU.out]; rfl, hb⟩
  | true =>
    have HU : Hid (lvI b v = lvlT v.toNat) := Lib.hid (by unfold lvI; rw [if_pos hg])
    obtain ⟨n, rfl, n1, n2⟩ := good_nat hg
    have n3 : n < 33554432 := by have := (pow_bd hb2).2; rw [Nat.pow_succ] at n2; omega
    have hl := lvl_le n1 n2
    have HL : Hid (∀ W, Calls Tryz.prog 84 #[.int .u64 (n : Int)] W fun e w' => e = .returned (.int .i64 ((lvlT n : Int) + 1)) ∧ w' = W) := Lib.hid fun W => by
      have := Tryz.bits_Len (n : Int) W (by omega) (by omega)
      rw [Int.toNat_natCast, bit_len n1 (by omega)] at this
      exact this
    rw [Int.toNat_natCast] at HU
    obtain ⟨l, hl2⟩ : ∃ l, lvlT n = l := ⟨_, rfl⟩
    rw [hl2] at HU HL hl
    rw [hg] at HG
    clear hg n1 n2 hv hl2
    go_enter Tryz.func58, Tryz.ntmps58
    go_wp2_with fail
    refine (HG.out _).mono ?_
    rintro e w1 ⟨rfl, b1⟩
    have hb := hB.trans (b1.mono hB.size)
    go_wp2_with fail
    refine (HL.out _).mono ?_
    rintro e w2 ⟨rfl, rfl⟩
    go_wp2_with fail
    go_ret
    exact ⟨by rw [HU.out]; rfl, hb⟩
end Go.Proofs.YthjcdbnjmpjikaaGreat

/-
  Package tree as it landed: Range, Before, Above; all of it.
-/
namespace Go.Proofs.YthjcdbnjmpjikaaGreat
set_option linter.unusedVariables false
set_option linter.unusedSimpArgs false
open Go.RowKit Go.Joins

theorem wrap_64 {r : Int} (h : I64 r) : wrap64 r = r ∧ IntKind.i64.wrap r = r := by
  obtain ⟨a, b⟩ := h
  exact ⟨IntWalk.wrap64_in r (by omega), IntWalk.i64_in r (by omega)⟩

set_option maxRecDepth 100000 in
set_option maxHeartbeats 2000000 in
theorem treerange_any (w : World) (b : Nat) (v : Int) (hb1 : 1 ≤ b) (hb2 : b ≤ 24) (hv : I64 v) : Calls Tryz.prog 35 #[.agg #[.int .i64 b], .int .i64 v] w fun e w' => e = .returned (.tuple #[.int .i64 (rloI b v), .int .i64 (rhiI b v)]) ∧ Below w.heap.size w w' := by
  have HG := Lib.hid (fun W => tgood_any W b v hb1 hb2 hv)
  have HLV := Lib.hid (fun W => tlevel_any W b v hb1 hb2 hv)
  have HLE := Lib.hid (fun W => tleaves_any W b hb1 hb2)
  have c0 := tree_cell w (.int .i64 b)
  have hB := box_below w (.int .i64 b)
  cases hg : goodT b v with
  | false =>
    have HU : Hid (rloI b v = 0 ∧ rhiI b v = 0) := Lib.hid (by unfold rloI rhiI; rw [hg]; exact ⟨rfl, rfl⟩)
    rw [hg] at HG
    clear hg hv
    go_enter Tryz.func35, Tryz.ntmps35
    go_wp2_with fail
    refine (HG.out _).mono ?_
    rintro e w1 ⟨rfl, b1⟩
    have hb := hB.trans (b1.mono hB.size)
    go_wp2_with fail
    go_ret2
    exact ⟨by rw [HU.out.1, HU.out.2]; rfl, hb⟩
  | true =>
    have HU : Hid (rloI b v = loI b v.toNat ∧ rhiI b v = hiI b v.toNat) := Lib.hid (by unfold rloI rhiI; rw [if_pos hg, if_pos hg]; exact ⟨rfl, rfl⟩)
    have hlv : lvI b v = lvlT v.toNat := by unfold lvI; rw [if_pos hg]
    obtain ⟨n, rfl, n1, n2⟩ := good_nat hg
    have hpb := (pow_bd hb2).2
    have n3 : n < 33554432 := by rw [Nat.pow_succ] at n2; omega
    have hl := lvl_le n1 n2
    have hri := range_in n1 n2
    rw [hlv] at HLV
    rw [Int.toNat_natCast] at HU HLV
    obtain ⟨lv, hlve⟩ : ∃ lv : Nat, 2 ^ b = lv := ⟨_, rfl⟩
    have e3 : (2 : Int) ^ b = (lv : Int) := by rw [← hlve, Int.natCast_pow]; rfl
    rw [hlve] at HLE hri hpb
    rw [Nat.pow_succ, hlve] at hri
    have hlo : n * 2 ^ (b - lvlT n) = loT b n := rfl
    have hup : loT b n + 2 ^ (b - lvlT n) = upT b n := by unfold loT upT; rw [Nat.add_mul, Nat.one_mul]
    unfold loI hiI at HU
    rw [e3] at HU
    obtain ⟨l, hl2⟩ : ∃ l, lvlT n = l := ⟨_, rfl⟩
    obtain ⟨L, hL⟩ : ∃ L, loT b n = L := ⟨_, rfl⟩
    obtain ⟨U, hU⟩ : ∃ U, upT b n = U := ⟨_, rfl⟩
    obtain ⟨k, hk⟩ : ∃ k, b - l = k := ⟨_, rfl⟩
    rw [hl2] at HLV hl hlo hup
    rw [hL] at hlo hup hri HU
    rw [hU] at hup hri HU
    rw [hk] at hlo hup
    obtain ⟨p, hp⟩ : ∃ p : Nat, 2 ^ k = p := ⟨_, rfl⟩
    rw [hp] at hlo hup
    have hd : (b : Int) - (l : Int) = (k : Int) := by omega
    have k0 : (0 : Int) ≤ (k : Int) := by omega
    have ep : (2 : Int) ^ k = (p : Int) := by rw [← hp, Int.natCast_pow]; rfl
    have HY : Hid (IntKind.i64.wrap ((n : Int) * 2 ^ k) = L ∧ IntKind.i64.wrap ((2 : Int) ^ k) = p ∧ (L : Int) - (lv : Int) = rloI b n ∧ IntKind.i64.wrap ((L : Int) - (lv : Int)) = rloI b n ∧ IntKind.i64.wrap (rloI b n + p) = rhiI b n + 1 ∧ IntKind.i64.wrap (rhiI b n + 1 - 1) = rhiI b n) := Lib.hid (by
      rw [HU.out.1, HU.out.2, ep, ← Int.natCast_mul, hlo]
      refine ⟨(wrap_64 ⟨by omega, by omega⟩).2, (wrap_64 ⟨by omega, by omega⟩).2, rfl, (wrap_64 ⟨by omega, by omega⟩).2, ?_, ?_⟩
      · rw [(wrap_64 ⟨by omega, by omega⟩).2]; omega
      · rw [(wrap_64 ⟨by omega, by omega⟩).2]; omega)
    have x1 : IntKind.i64.wrap (k : Int) = (k : Int) := (wrap_64 ⟨by omega, by omega⟩).2
    rw [hg] at HG
    clear hg n1 n2 n3 hpb hl hri hlv hlve e3 hlo hup hl2 hL hU hk hp ep hv HU
    go_enter Tryz.func35, Tryz.ntmps35
    go_wp2_with fail
    refine (HG.out _).mono ?_
    rintro e w1 ⟨rfl, b1⟩
    have hb := hB.trans (b1.mono hB.size)
    have c1 := cell_later b1 c0
    clear hB b1 c0
    have HS0 : Hid (w1.drew.cell? ⟨w.heap.size, 0, none⟩ = some (.int .i64 b) ∧ Below w.heap.size w w1.drew) := Lib.hid ⟨c1, hb.drew⟩
    have HST := Lib.hid (fun (W W' : World) (h : W.cell? ⟨w.heap.size, 0, none⟩ = some (.int .i64 b) ∧ Below w.heap.size w W) (hb : Below W.heap.size W W') => (⟨cell_later hb h.1, h.2.trans (hb.mono h.2.size)⟩ : W'.cell? ⟨w.heap.size, 0, none⟩ = some (.int .i64 b) ∧ Below w.heap.size w W'))
    clear hb c1
    go_wp2_with fail
    go_region_held3 (fun w' => w'.cell? ⟨w.heap.size, 0, none⟩ = some (.int .i64 b) ∧ Below w.heap.size w w')
      (first | exact HS0.out | exact HST.out _ _ (by assumption) hbA | assumption)
      ((go_at_call 58; with_reducible refine (HLV.out _).mono ?_; rintro e wA ⟨rfl, hbA⟩))
    rename_i hHeld
    clear HS0
    have HS1 := Lib.hid hHeld
    clear hHeld
    go_wp2_with fail
    go_region_held3 (fun w' => w'.cell? ⟨w.heap.size, 0, none⟩ = some (.int .i64 b) ∧ Below w.heap.size w w')
      (first | exact ⟨HS1.out.1, HS1.out.2.drew⟩ | exact HST.out _ _ (by assumption) hbA | assumption)
      ((go_at_call 59; with_reducible refine (HLE.out _).mono ?_; rintro e wA ⟨rfl, hbA⟩))
    rename_i hHeld
    clear HS1
    have HS1 := Lib.hid hHeld
    clear hHeld
    go_wp2_with fail
    go_region_held3 (fun w' => w'.cell? ⟨w.heap.size, 0, none⟩ = some (.int .i64 b) ∧ Below w.heap.size w w')
      (first | exact ⟨HS1.out.1, HS1.out.2.drew⟩ | assumption)
      (fail)
    rename_i hHeld
    have hb := hHeld.2
    clear hHeld HS1
    go_wp2_with fail
    go_ret2
    obtain ⟨y1, y2, _, y3, y4, y5⟩ := HY.out
    exact ⟨by
      show Ending.returned (.tuple #[.int .i64 (IntKind.i64.wrap (IntKind.i64.wrap ((n : Int) * 2 ^ k) - (lv : Int))), .int .i64 (IntKind.i64.wrap (IntKind.i64.wrap (IntKind.i64.wrap (IntKind.i64.wrap ((n : Int) * 2 ^ k) - (lv : Int)) + IntKind.i64.wrap ((2 : Int) ^ k)) - 1))]) = _
      rw [y1, y2, y3, y4, y5], hb⟩

set_option maxRecDepth 100000 in
set_option maxHeartbeats 2000000 in
theorem tbefore_any (w : World) (b : Nat) (v u : Int) (hb1 : 1 ≤ b) (hb2 : b ≤ 24) (gv : goodT b v = true) (gu : goodT b u = true) : Calls Tryz.prog 62 #[.agg #[.int .i64 b], .int .i64 v, .int .i64 u] w fun e w' => e = .returned (.bool (beforeT b v.toNat u.toNat)) ∧ Below w.heap.size w w' := by
  have hlv : lvI b v = lvlT v.toNat := by unfold lvI; rw [if_pos gv]
  have hlu : lvI b u = lvlT u.toNat := by unfold lvI; rw [if_pos gu]
  have hrv : rhiI b v = hiI b v.toNat := by unfold rhiI; rw [if_pos gv]
  have hru : rhiI b u = hiI b u.toNat := by unfold rhiI; rw [if_pos gu]
  have hv : I64 v := by
    obtain ⟨n, rfl, n1, n2⟩ := good_nat gv
    have hpb := (pow_bd hb2).2
    rw [Nat.pow_succ] at n2
    exact ⟨by omega, by omega⟩
  have hu : I64 u := by
    obtain ⟨n, rfl, n1, n2⟩ := good_nat gu
    have hpb := (pow_bd hb2).2
    rw [Nat.pow_succ] at n2
    exact ⟨by omega, by omega⟩
  have GV := Lib.hid (fun W => tgood_any W b v hb1 hb2 hv)
  have GU := Lib.hid (fun W => tgood_any W b u hb1 hb2 hu)
  have LV := Lib.hid (fun W => tlevel_any W b v hb1 hb2 hv)
  have LU := Lib.hid (fun W => tlevel_any W b u hb1 hb2 hu)
  have RV := Lib.hid (fun W => treerange_any W b v hb1 hb2 hv)
  have RU := Lib.hid (fun W => treerange_any W b u hb1 hb2 hu)
  have c0 := tree_cell w (.int .i64 b)
  have hB := box_below w (.int .i64 b)
  have hab : (if rhiI b v = rhiI b u then decide (lvlT u.toNat < lvlT v.toNat) else decide (rhiI b v < rhiI b u)) = beforeT b v.toNat u.toNat := by
    rw [hrv, hru]
    unfold hiI beforeT
    by_cases e : upT b v.toNat = upT b u.toNat
    · rw [if_pos (by rw [e]), e]; simp
    · rw [if_neg (by omega)]
      by_cases e2 : upT b v.toNat < upT b u.toNat
      · rw [decide_eq_true e2, decide_eq_true (by omega)]; rfl
      · rw [decide_eq_false e2, decide_eq_false (by omega), decide_eq_false e]; rfl
  rw [gv] at GV
  rw [gu] at GU
  rw [hlv] at LV
  rw [hlu] at LU
  obtain ⟨l, hl⟩ : ∃ l, lvlT v.toNat = l := ⟨_, rfl⟩
  obtain ⟨k, hk⟩ : ∃ k, lvlT u.toNat = k := ⟨_, rfl⟩
  obtain ⟨r0, hr0⟩ : ∃ r, rloI b v = r := ⟨_, rfl⟩
  obtain ⟨r1, hr1⟩ : ∃ r, rhiI b v = r := ⟨_, rfl⟩
  obtain ⟨s0, hs0⟩ : ∃ r, rloI b u = r := ⟨_, rfl⟩
  obtain ⟨s1, hs1⟩ : ∃ r, rhiI b u = r := ⟨_, rfl⟩
  rw [hl] at LV hab
  rw [hk] at LU hab
  rw [hr0, hr1] at RV
  rw [hs0, hs1] at RU
  rw [hr1, hs1] at hab
  have HAB := Lib.hid hab.symm
  clear gv gu hlv hlu hrv hru hv hu hl hk hr0 hr1 hs0 hs1 hab
  go_enter Tryz.func62, Tryz.ntmps62
  go_wp2_with fail
  refine (GV.out _).mono ?_
  rintro e w1 ⟨rfl, b1⟩
  have hb := hB.trans (b1.mono hB.size)
  have c1 := cell_later b1 c0
  clear hB b1 c0
  go_wp2_with fail
  refine (GU.out _).mono ?_
  rintro e w2 ⟨rfl, b2⟩
  have hbb := hb.trans (b2.mono hb.size)
  have c2 := cell_later b2 c1
  clear hb b2 c1
  go_wp2_with fail
  refine (RV.out _).mono ?_
  rintro e w3 ⟨rfl, b3⟩
  have hb3 := hbb.trans (b3.mono hbb.size)
  have c3 := cell_later b3 c2
  clear hbb b3 c2
  go_wp2_with fail
  refine (RU.out _).mono ?_
  rintro e w4 ⟨rfl, b4⟩
  have hb4 := hb3.trans (b4.mono hb3.size)
  have c4 := cell_later b4 c3
  clear hb3 b4 c3
  by_cases he : r1 = s1
  · have HF : Hid (beforeT b v.toNat u.toNat = decide (k < l)) := Lib.hid (by rw [HAB.out, if_pos he])
    have q1 : (!r1 == s1) = false := by simp [he]
    have q2 : (r1 != s1) = false := by simp [he]
    have HS0 : Hid (w4.drew.cell? ⟨w.heap.size, 0, none⟩ = some (.int .i64 b) ∧ Below w.heap.size w w4.drew) := Lib.hid ⟨c4, hb4.drew⟩
    have HST := Lib.hid (fun (W W' : World) (h : W.cell? ⟨w.heap.size, 0, none⟩ = some (.int .i64 b) ∧ Below w.heap.size w W) (hb : Below W.heap.size W W') => (⟨cell_later hb h.1, h.2.trans (hb.mono h.2.size)⟩ : W'.cell? ⟨w.heap.size, 0, none⟩ = some (.int .i64 b) ∧ Below w.heap.size w W'))
    clear he c4 hb4
    go_wp2_with fail
    go_region_held3 (fun w' => w'.cell? ⟨w.heap.size, 0, none⟩ = some (.int .i64 b) ∧ Below w.heap.size w w')
      (first | exact HS0.out | exact HST.out _ _ (by assumption) hbA | exact HST.out _ _ (by assumption) hbB | assumption)
      ((first
        | (go_at_call 58; with_reducible refine (LV.out _).mono ?_; rintro e wA ⟨rfl, hbA⟩)
        | (go_at_call 58; with_reducible refine (LU.out _).mono ?_; rintro e wB ⟨rfl, hbB⟩)))
    all_goals
      rename_i hHeld
      have hb := hHeld.2
      clear hHeld HS0 HST
      go_wp2_with fail
      go_ret
      exact ⟨by rw [HF.out]; first | rfl | (show Ending.returned (.bool (decide ((k : Int) < (l : Int)))) = _; congr 2; simp), hb⟩
  · have HF : Hid (beforeT b v.toNat u.toNat = decide (r1 < s1)) := Lib.hid (by rw [HAB.out, if_neg he])
    have q1 : (!r1 == s1) = true := by simp [he]
    have q2 : (r1 != s1) = true := by simp [he]
    clear he
    go_wp2_with fail
    go_ret
    exact ⟨by rw [HF.out]; rfl, hb4⟩

theorem tree_does : TreeDoes where
  new_ok := tnew_ok
  new_no := tnew_no
  leaves := tleaves_any
  depth := tdepth_any
  good := tgood_any
  leaf_in := tleaf_in
  leaf_out := tleaf_out
  up := tup_any
  beside := tbeside_any
  level := tlevel_any
  range := treerange_any
  before := tbefore_any
end Go.Proofs.YthjcdbnjmpjikaaGreat

/-
  The library contracts that the proofs lean on, laid at this translation by program.
-/
namespace Go.Proofs
open Go.Shelf
def Tryz.keysA_ren : Go.Shelf.Ren := ⟨fun | 7 => 72 | 10 => 95 | n => n, fun | 23 => 116 | 26 => 3 | 3 => 25 | 28 => 121 | 0 => 0 | 27 => 120 | 33 => 101 | 4 => 4 | n => n, fun | n => n⟩
theorem Tryz.keysA : Go.Proofs.SlLaysZI.n7 Tryz.prog Tryz.keysA_ren := {
  mixed := by kernel_rfl
  f7 := ⟨Tryz.f72.name, by decide, Tryz.func72.trans (congrArg some (by kernel_rfl))⟩
  f10 := ⟨Tryz.f95.name, by decide, Tryz.func95.trans (congrArg some (by kernel_rfl))⟩
  t0 := Tryz.underlying0
  a0 := Tryz.isAgg0
  z0 := Tryz.sizeOf0
  v0 := Tryz.zeroValue0
  t4 := Tryz.underlying4
  a4 := Tryz.isAgg4
  z4 := Tryz.sizeOf4
  v4 := Tryz.zeroValue4
  t23 := Tryz.underlying116
  a23 := Tryz.isAgg116
  z23 := Tryz.sizeOf116
  v23 := Tryz.zeroValue116
  t26 := Tryz.underlying3
  a26 := Tryz.isAgg3
  z26 := Tryz.sizeOf3
  v26 := Tryz.zeroValue3
  t27 := Tryz.underlying120
  a27 := Tryz.isAgg120
  z27 := Tryz.sizeOf120
  v27 := Tryz.zeroValue120
  t28 := Tryz.underlying121
  a28 := Tryz.isAgg121
  z28 := Tryz.sizeOf121
  v28 := Tryz.zeroValue121
  t33 := Tryz.underlying101
  a33 := Tryz.isAgg101
  z33 := Tryz.sizeOf101
  v33 := Tryz.zeroValue101 }
def Tryz.sortedA_ren : Go.Shelf.Ren := ⟨fun | 6 => 71 | 8 => 93 | 9 => 94 | 11 => 115 | 13 => 84 | 12 => 116 | 23 => 103 | 24 => 104 | 14 => 125 | 15 => 126 | 16 => 127 | 17 => 128 | 18 => 129 | 19 => 130 | 20 => 131 | 21 => 132 | 22 => 133 | 25 => 136 | 26 => 121 | 27 => 122 | 28 => 137 | 29 => 138 | 30 => 117 | 31 => 139 | n => n, fun | 26 => 3 | 28 => 121 | 24 => 105 | 0 => 0 | 3 => 3 | 37 => 132 | 48 => 147 | 50 => 25 | 4 => 4 | 40 => 150 | 39 => 149 | 45 => 92 | 5 => 5 | 9 => 9 | 51 => 159 | 55 => 162 | 57 => 170 | 58 => 171 | 33 => 101 | n => n, fun | n => n⟩
theorem Tryz.sortedA : Go.Proofs.SlLaysZI.n6 Tryz.prog Tryz.sortedA_ren := {
  mixed := by kernel_rfl
  f6 := ⟨Tryz.f71.name, by decide, Tryz.func71.trans (congrArg some (by kernel_rfl))⟩
  f8 := ⟨Tryz.f93.name, by decide, Tryz.func93.trans (congrArg some (by kernel_rfl))⟩
  f11 := ⟨Tryz.f115.name, by decide, Tryz.func115.trans (congrArg some (by kernel_rfl))⟩
  t0 := Tryz.underlying0
  a0 := Tryz.isAgg0
  z0 := Tryz.sizeOf0
  v0 := Tryz.zeroValue0
  t24 := Tryz.underlying105
  a24 := Tryz.isAgg105
  z24 := Tryz.sizeOf105
  v24 := Tryz.zeroValue105
  t26 := Tryz.underlying3
  a26 := Tryz.isAgg3
  z26 := Tryz.sizeOf3
  v26 := Tryz.zeroValue3
  t28 := Tryz.underlying121
  a28 := Tryz.isAgg121
  z28 := Tryz.sizeOf121
  v28 := Tryz.zeroValue121
  i26 := by kernel_rfl }
def Tryz.sortA_ren : Go.Shelf.Ren := ⟨fun | 5 => 94 | 8 => 84 | 7 => 116 | 19 => 103 | 20 => 104 | 10 => 125 | 11 => 126 | 12 => 127 | 13 => 128 | 14 => 129 | 15 => 130 | 16 => 131 | 17 => 132 | 18 => 133 | 30 => 136 | 31 => 121 | 32 => 122 | 33 => 137 | 34 => 138 | 35 => 117 | 40 => 139 | n => n, fun | 23 => 105 | 25 => 3 | 3 => 3 | 32 => 132 | 22 => 105 | 0 => 0 | 44 => 147 | 46 => 25 | 4 => 4 | 36 => 150 | 35 => 149 | 41 => 92 | 5 => 5 | 9 => 9 | 53 => 159 | 57 => 162 | 63 => 170 | 64 => 171 | n => n, fun | n => n⟩
theorem Tryz.sortA : Go.Proofs.SlLaysM.n5 Tryz.prog Tryz.sortA_ren := {
  mixed := by kernel_rfl
  f5 := ⟨Tryz.f94.name, by decide, Tryz.func94.trans (congrArg some (by kernel_rfl))⟩
  f7 := ⟨Tryz.f116.name, by decide, Tryz.func116.trans (congrArg some (by kernel_rfl))⟩
  f8 := Tryz.func84.trans (congrArg some (by kernel_rfl))
  f10 := ⟨Tryz.f125.name, by decide, Tryz.func125.trans (congrArg some (by kernel_rfl))⟩
  f11 := ⟨Tryz.f126.name, by decide, Tryz.func126.trans (congrArg some (by kernel_rfl))⟩
  f12 := ⟨Tryz.f127.name, by decide, Tryz.func127.trans (congrArg some (by kernel_rfl))⟩
  f13 := ⟨Tryz.f128.name, by decide, Tryz.func128.trans (congrArg some (by kernel_rfl))⟩
  f14 := ⟨Tryz.f129.name, by decide, Tryz.func129.trans (congrArg some (by kernel_rfl))⟩
  f15 := ⟨Tryz.f130.name, by decide, Tryz.func130.trans (congrArg some (by kernel_rfl))⟩
  f16 := ⟨Tryz.f131.name, by decide, Tryz.func131.trans (congrArg some (by kernel_rfl))⟩
  f17 := ⟨Tryz.f132.name, by decide, Tryz.func132.trans (congrArg some (by kernel_rfl))⟩
  f18 := ⟨Tryz.f133.name, by decide, Tryz.func133.trans (congrArg some (by kernel_rfl))⟩
  f19 := Tryz.func103.trans (congrArg some (by kernel_rfl))
  f20 := Tryz.func104.trans (congrArg some (by kernel_rfl))
  f30 := ⟨Tryz.f136.name, by decide, Tryz.func136.trans (congrArg some (by kernel_rfl))⟩
  f31 := Tryz.func121.trans (congrArg some (by kernel_rfl))
  f32 := Tryz.func122.trans (congrArg some (by kernel_rfl))
  f33 := ⟨Tryz.f137.name, by decide, Tryz.func137.trans (congrArg some (by kernel_rfl))⟩
  f34 := ⟨Tryz.f138.name, by decide, Tryz.func138.trans (congrArg some (by kernel_rfl))⟩
  f35 := ⟨Tryz.f117.name, by decide, Tryz.func117.trans (congrArg some (by kernel_rfl))⟩
  f40 := ⟨Tryz.f139.name, by decide, Tryz.func139.trans (congrArg some (by kernel_rfl))⟩
  t0 := Tryz.underlying0
  a0 := Tryz.isAgg0
  z0 := Tryz.sizeOf0
  v0 := Tryz.zeroValue0
  t3 := Tryz.underlying3
  a3 := Tryz.isAgg3
  z3 := Tryz.sizeOf3
  v3 := Tryz.zeroValue3
  t4 := Tryz.underlying4
  a4 := Tryz.isAgg4
  z4 := Tryz.sizeOf4
  v4 := Tryz.zeroValue4
  t5 := Tryz.underlying5
  a5 := Tryz.isAgg5
  z5 := Tryz.sizeOf5
  v5 := Tryz.zeroValue5
  t9 := Tryz.underlying9
  a9 := Tryz.isAgg9
  z9 := Tryz.sizeOf9
  v9 := Tryz.zeroValue9
  t22 := Tryz.underlying105
  a22 := Tryz.isAgg105
  z22 := Tryz.sizeOf105
  v22 := Tryz.zeroValue105
  t23 := Tryz.underlying105
  a23 := Tryz.isAgg105
  z23 := Tryz.sizeOf105
  v23 := Tryz.zeroValue105
  t25 := Tryz.underlying3
  a25 := Tryz.isAgg3
  z25 := Tryz.sizeOf3
  v25 := Tryz.zeroValue3
  t32 := Tryz.underlying132
  a32 := Tryz.isAgg132
  z32 := Tryz.sizeOf132
  v32 := Tryz.zeroValue132
  t35 := Tryz.underlying149
  a35 := Tryz.isAgg149
  z35 := Tryz.sizeOf149
  v35 := Tryz.zeroValue149
  t36 := Tryz.underlying150
  a36 := Tryz.isAgg150
  z36 := Tryz.sizeOf150
  v36 := Tryz.zeroValue150
  t41 := Tryz.underlying92
  a41 := Tryz.isAgg92
  z41 := Tryz.sizeOf92
  v41 := Tryz.zeroValue92
  t44 := Tryz.underlying147
  a44 := Tryz.isAgg147
  z44 := Tryz.sizeOf147
  v44 := Tryz.zeroValue147
  t46 := Tryz.underlying25
  a46 := Tryz.isAgg25
  z46 := Tryz.sizeOf25
  v46 := Tryz.zeroValue25
  t53 := Tryz.underlying159
  a53 := Tryz.isAgg159
  z53 := Tryz.sizeOf159
  v53 := Tryz.zeroValue159
  t57 := Tryz.underlying162
  a57 := Tryz.isAgg162
  z57 := Tryz.sizeOf162
  v57 := Tryz.zeroValue162
  t63 := Tryz.underlying170
  a63 := Tryz.isAgg170
  z63 := Tryz.sizeOf170
  v63 := Tryz.zeroValue170
  t64 := Tryz.underlying171
  a64 := Tryz.isAgg171
  z64 := Tryz.sizeOf171
  v64 := Tryz.zeroValue171 }
end Go.Proofs

/-
  A map of counts by nodes in memory, told as a row; its keys in order; rise: what goes up, by the map.
-/
namespace Go.Proofs.YthjcdbnjmpjikaaGreat
set_option linter.unusedVariables false
set_option linter.unusedSimpArgs false
open Go.RowKit Go.Maps Go.Sort

theorem lawIntD : Maps.Keyed Tryz.prog 3 := Maps.int_keyed Tryz.underlying3
theorem wfD_i64 {x : Int} (h : I64 x) : (Lit.int .i64 x).wf = true := by
  unfold I64 at h
  have e1 : IntKind.i64.min = -9223372036854775808 := by decide
  have e2 : IntKind.i64.max = 9223372036854775807 := by decide
  simp [Lit.wf, e1, e2]; omega
theorem wfD_u64 {x : Int} (h : Word x) : (Lit.int .u64 x).wf = true := by
  unfold Word at h
  have e1 : IntKind.u64.min = 0 := by decide
  have e2 : IntKind.u64.max = 18446744073709551615 := by decide
  simp [Lit.wf, e1, e2]; omega
theorem keyD {x : Int} (h : I64 x) : keyOf Tryz.prog 3 (.int .i64 x) = some (.int .i64 x) := Maps.keyOf_int_mk Tryz.underlying3 (wfD_i64 h)
theorem elD {x : Int} (h : Word x) : plainElem (H := Unit) Tryz.prog 25 (.int .u64 x) = some (.lit (.int .u64 x), []) := plainElem_int Tryz.underlying25 (wfD_u64 h)

/-- Block m is a map that has a row. -/
def MapX (w : World) (m : Nat) (R : List PairV) : Prop := w.ownsMap Tryz.prog 3 (plainElem (H := Unit) Tryz.prog 25) m R.length (mapD R)
theorem mapx_of {w : World} {m n : Nat} {R : List PairV} (h : w.ownsMap Tryz.prog 3 (plainElem (H := Unit) Tryz.prog 25) m n (mapD R)) : MapX w m R := by
  obtain ⟨es, clock, h1, h2, h3, h4⟩ := h
  refine ⟨es, clock, h1, h2, ?_, h4⟩
  have e := congrArg Maps.size h4
  rw [mapD_size] at e
  have e2 := length_read (P := Tryz.prog) (k := 3) (R0 := plainElem (H := Unit) Tryz.prog 25) es
  have e3 : R.length = es.size := e.trans e2
  omega
theorem MapX.lt {w : World} {m : Nat} {R : List PairV} (h : MapX w m R) : m < w.heap.size := World.ownsMap.lt h
theorem MapX.below {w w' : World} {m : Nat} {R : List PairV} (h : MapX w m R) (hb : Below w.heap.size w w') : MapX w' m R := by
  have hlt := h.lt
  obtain ⟨es, clock, h1, h2⟩ := h
  exact ⟨es, clock, (hb.block m hlt).trans h1, h2⟩
theorem MapX.at_ {w w' : World} {m : Nat} {R : List PairV} (h : MapX w m R) (hb : w'.heap[m]? = w.heap[m]?) : MapX w' m R := by
  obtain ⟨es, clock, h1, h2⟩ := h
  exact ⟨es, clock, hb.trans h1, h2⟩
theorem MapX.drew {w : World} {m : Nat} {R : List PairV} (h : MapX w m R) : MapX w.drew m R := h
theorem mapx_made (w : World) : MapX (w.alloc (.map #[] 0)) w.heap.size [] := World.ownsMap_made w Tryz.prog 3 (plainElem (H := Unit) Tryz.prog 25)
theorem zeroU (w : World) : (zeroValue 25).run Tryz.prog w = .ok (.int .u64 0) w := by kernel_rfl
/-- What is looked up. -/
theorem mapx_look {w : World} {m : Nat} {R : List PairV} (h : MapX w m R) (hg : GoodP R) {v : Int} (hv : I64 v) : (Instr.lookup 116 (.map (some m)) (.int .i64 v) false).run Tryz.prog w = .ok (.int .u64 (countP R v)) w := by
  obtain ⟨c, h1, h2, _⟩ := World.ownsMap.lookup_int h lawIntD Tryz.underlying116 Tryz.underlying25 (zeroU w) (keyD hv)
  rw [mapD_at v hg] at h2
  have e : countP R v = c := by
    have := DataW.lit.inj h2
    exact (Lit.int.inj this).2
  rw [e]; exact h1
/-- The keys, sorted, as the library does it. -/
theorem keys_sorts (k : Nat) : AnyZI.SortsIn Tryz.prog Tryz.sortedA_ren Fence.wide k :=
  ⟨fun blk off cap ss W hH hblk hsz => callsIn_wide.2 (AnyM.slices_Sort_int Tryz.sortA blk off cap ss W hH hblk hsz),
   fun p cap W => callsIn_wide.2 (AnyM.slices_Sort_int_none Tryz.sortA p cap W)⟩
theorem keys_any (m : Nat) (W : World) : Calls Tryz.prog 72 #[.map (some m)] W fun e w' => e = .returned (.func (.func 95) #[] #[.pointer (some ⟨W.heap.size, 0, none⟩)]) ∧ w' = W.alloc (.cells #[.map (some m)] 116) :=
  callsIn_wide.1 (AnyZI.keys_in Tryz.keysA Fence.wide 5 trivial rfl (some m) W)

set_option maxHeartbeats 1000000 in
theorem sorted_any {w : World} {m : Nat} {R : List PairV} (h : MapX w m R) (hg : GoodP R) (hl : R.length ≤ 100000) :
    Calls Tryz.prog 71 #[.func (.func 95) #[] #[.pointer (some ⟨w.heap.size, 0, none⟩)]] (w.alloc (.cells #[.map (some m)] 116)) fun e w' => ∃ v, e = .returned v ∧ w'.ownsRow (w.heap.size + 1) 3 1 v R.length ((R.map fun p => p.1).map encZ) ∧ w.heap.size + 1 ≤ w'.heap.size ∧ Below w.heap.size w w' := by
  have hbl := h.lt
  have hsz := mapD_size R
  have hseq : SeqGives Fence.wide 2 Tryz.prog 95 #[.pointer (some ⟨w.heap.size, 0, none⟩)] encZ (fun ss => ss.Perm (intKeys (mapD R))) (Maps.size (mapD R)) (w.alloc (.cells #[.map (some m)] 116)) :=
    AnyZI.keys_gives (ρ := Tryz.keysA_ren) { Tryz.keysA with } Fence.wide _ trivial rfl (by omega) w.heap.size m R.length (mapD R) _ (by simp) (by simp) (by
      obtain ⟨es, clock, hb, Ft, hs, hD⟩ := h
      exact ⟨es, clock, (Below.heap_alloc _ _ m hbl).trans hb, Ft, hs, hD⟩)
  have cS := AnyZI.sorted_in Tryz.sortedA Fence.wide 5 trivial trivial trivial trivial rfl (by omega) (keys_sorts _) (enters_of Tryz.func94 (by kernel_rfl) rfl) 95 #[.pointer (some ⟨w.heap.size, 0, none⟩)] trivial (enters_of Tryz.func95 (by kernel_rfl) rfl) _ _ (by rw [hsz]; unfold maxLen; omega) (by rw [hsz]; omega) _ hseq
  change CallsIn _ _ Tryz.prog 71 _ _ _ at cS
  refine (callsIn_wide.1 cS).mono ?_
  rintro e w' ⟨v, ss, rfl, hS, hrow, hnil, hb⟩
  have hk : intKeys (mapD R) = R.map fun p => p.1 := by
    unfold mapD intKeys
    simp only [List.map_map]
    rfl
  rw [hk] at hS
  have hs := keys_sorted hg hS
  have hln : ss.length = R.length := by rw [hS.length_eq, List.length_map]
  have hz : (w.alloc (.cells #[.map (some m)] 116)).heap.size = w.heap.size + 1 := by simp
  have hsz2 := hb.size
  rw [hz] at hsz2
  rw [hs, hln, hz] at hrow
  rw [hz] at hb
  have b1 : Below w.heap.size w (w.alloc (.cells #[.map (some m)] 116)) := (Below.refl _ _).alloc (Nat.le_refl _) _
  exact ⟨v, rfl, hrow, hsz2, b1.trans (hb.mono (Nat.le_succ _))⟩
end Go.Proofs.YthjcdbnjmpjikaaGreat

/-
  The library contract of slices.Reverse, laid at this translation by program.
-/
namespace Go.Proofs
open Go.Shelf Go.Lib Go.Sort
def Tryz.lays112_ren : Go.Shelf.Ren := ⟨fun | 112 => 91 | n => n, fun | 28 => 105 | 3 => 3 | 4 => 4 | 0 => 0 | n => n, fun | n => n⟩
theorem Tryz.lays112 : Go.Proofs.Lays.n112 Tryz.prog Tryz.lays112_ren := {
  mixed := by kernel_rfl
  f112 := Tryz.func91.trans (congrArg some (by kernel_rfl))
  t0 := Tryz.underlying0
  a0 := Tryz.isAgg0
  z0 := Tryz.sizeOf0
  v0 := Tryz.zeroValue0
  t3 := Tryz.underlying3
  a3 := Tryz.isAgg3
  z3 := Tryz.sizeOf3
  v3 := Tryz.zeroValue3
  t4 := Tryz.underlying4
  a4 := Tryz.isAgg4
  z4 := Tryz.sizeOf4
  v4 := Tryz.zeroValue4
  t28 := Tryz.underlying105
  a28 := Tryz.isAgg105
  z28 := Tryz.sizeOf105
  v28 := Tryz.zeroValue105 }
open Go.RowKit Go.Lib Go.Sort in
theorem Tryz.slices_Reverse_int_arr (blk off cap : Nat) (d : Array Int) (w : World) (hH : Holds encI w blk off d) (hsz : d.size ≤ 9223372036854775807) :
    Calls Tryz.prog 91 #[.slice (some ⟨blk, off, none⟩) d.size cap] w fun e w' => e = .returned (.tuple #[]) ∧ ∃ n, w' = putRow encI (Sort.ahead w n) blk off d.reverse := Any.slices_Reverse_int_arr Tryz.lays112 blk off cap d w hH hsz
open Go.RowKit Go.Lib Go.Sort in
theorem Tryz.slices_Reverse_int (blk off cap : Nat) (zs : List Int) (w : World) (hH : Holds (Value.int .i64) w blk off zs.toArray) (hsz : zs.length ≤ 9223372036854775807) :
    Calls Tryz.prog 91 #[.slice (some ⟨blk, off, none⟩) zs.length cap] w fun e w' => e = .returned (.tuple #[]) ∧ ∃ n, w' = putRow (Value.int .i64) (Sort.ahead w n) blk off zs.reverse.toArray := Any.slices_Reverse_int Tryz.lays112 blk off cap zs w hH hsz
open Go.RowKit Go.Lib Go.Sort in
theorem Tryz.slices_Reverse_int_empty (a : Option Addr) (cap : Nat) (w : World) :
    Calls Tryz.prog 91 #[.slice a 0 cap] w fun e w' => e = .returned (.tuple #[]) ∧ w' = w := Any.slices_Reverse_int_empty Tryz.lays112 a cap w
end Go.Proofs
