/-
  Walks: an eye's Raw, Nat, Int, Small, Count.
-/
import Derived.Test.YtllnbbfeplgjjaaQuillF
import Derived.BigQuiet
namespace Go.Proofs.Ytllnbbfeplgjjaa
set_option linter.unusedVariables false
set_option linter.unusedSimpArgs false
open Go.RowKit

/-- What an eye tells, and what it is behind it, that is asked for a number of at most so much. -/
def gone (s : ByteArray) (bad : Bool) (most : Nat) : Bool := bad || decide ((takS s.data.toList most).2 = 0)
def nV (s : ByteArray) (bad : Bool) (most : Nat) : Int := if gone s bad most then 0 else ((takS s.data.toList most).1 : Nat)
def nS (s : ByteArray) (bad : Bool) (most : Nat) : ByteArray := if gone s bad most then ⟨#[]⟩ else s.extract (takS s.data.toList most).2 s.size
theorem nV_word (s : ByteArray) (bad : Bool) (most : Nat) : Word (nV s bad most) := by
  unfold nV Word; have := takS_lt s.data.toList most
  split <;> omega
theorem nV_most (s : ByteArray) (bad : Bool) (most : Nat) : nV s bad most ≤ most := by
  unfold nV; have := takS_most s.data.toList most
  split <;> omega
theorem nS_size (s : ByteArray) (bad : Bool) (most : Nat) : (nS s bad most).size ≤ s.size := by
  unfold nS; split
  · exact Nat.zero_le _
  · rw [Lib.size_eq, Lib.size_eq, ← Lib.toList_data, Lib.extract_toList, List.length_take, List.length_drop]; omega
theorem eye_nS {w : World} {B : Nat} {s : ByteArray} {bad : Bool} {most : Nat} (h : gone s bad most = true) (k : Eye w B ⟨#[]⟩ true) : Eye w B (nS s bad most) (gone s bad most) := by
  unfold nS; rw [h]; exact k

set_option maxHeartbeats 1000000 in
theorem eye_nat (w : World) (B : Nat) (s : ByteArray) (bad : Bool) (most : Int) (hm : Word most) (hs : s.size ≤ 1000000) (h : Eye w B s bad) :
    Calls Try.prog 47 #[.pointer (some ⟨B, 0, none⟩), .int .u64 most] w fun e w' =>
      e = .returned (.int .u64 (nV s bad most.toNat)) ∧ Eye w' B (nS s bad most.toNat) (gone s bad most.toNat) ∧ w.grownBy w' (some B) := by
  have HE := Lib.hid h
  obtain ⟨⟨c0, c1, f0, f1⟩, hn⟩ := h
  obtain ⟨m0, m1⟩ := hm
  cases bad
  · clear hn
    obtain ⟨a, n, hF⟩ : ∃ a n, firstS s.data.toList = (a, n) := ⟨_, _, rfl⟩
    have C := first_any s w hs
    rw [hF] at C
    have HC := Lib.hid C
    have hl := firstS_le s.data.toList
    rw [hF] at hl
    have hl' : n ≤ s.size := by rw [Lib.size_eq]; exact hl
    clear C hl
    by_cases hz : n = 0 ∨ most.toNat < a
    · have hg : takS s.data.toList most.toNat = (0, 0) := by unfold takS; rw [hF, if_pos hz]
      have G : gone s false most.toNat = true := by unfold gone; rw [hg]; rfl
      have V : nV s false most.toNat = 0 := by unfold nV; rw [G]; rfl
      have HG := Lib.hid G
      have HV := Lib.hid V
      clear hg G V hF
      by_cases hn : n = 0
      · have q1 : ((n : Int) == 0) = true := by simpa using hn
        clear hn hz
        go_enter Try.func47, Try.ntmps47
        go_wp2_with fail
        refine (bad_any _ _ _ _ HE.out).mono ?_
        rintro e w' ⟨rfl, rfl⟩
        go_wp2_with fail
        refine HC.out.mono ?_
        rintro e w' ⟨rfl, rfl⟩
        go_wp2_with fail
        refine (shut_any _ _ _ _ HE.out).mono ?_
        rintro e wA ⟨rfl, hE, hG⟩
        go_wp2_with fail
        go_ret
        exact ⟨ret_int HV.out.symm, eye_nS HG.out hE, hG⟩
      · have q1 : ((n : Int) == 0) = false := by simpa using hn
        have q2 : most < (a : Int) := by omega
        clear hn hz
        go_enter Try.func47, Try.ntmps47
        go_wp2_with fail
        refine (bad_any _ _ _ _ HE.out).mono ?_
        rintro e w' ⟨rfl, rfl⟩
        go_wp2_with fail
        refine HC.out.mono ?_
        rintro e w' ⟨rfl, rfl⟩
        go_wp2_with fail
        refine (shut_any _ _ _ _ HE.out).mono ?_
        rintro e wA ⟨rfl, hE, hG⟩
        go_wp2_with fail
        go_ret
        exact ⟨ret_int HV.out.symm, eye_nS HG.out hE, hG⟩
    · have hg : takS s.data.toList most.toNat = (a, n) := by unfold takS; rw [hF, if_neg hz]
      have G : gone s false most.toNat = false := by unfold gone; rw [hg]; simp; omega
      have V : nV s false most.toNat = a := by unfold nV; rw [G, hg]; rfl
      have S : nS s false most.toNat = s.extract n s.size := by unfold nS; rw [G, hg]; rfl
      have HG := Lib.hid G
      have HV := Lib.hid V
      have HS := Lib.hid S
      have q1 : ((n : Int) == 0) = false := by simp; omega
      have q2 : ¬ most < (a : Int) := by omega
      have q3 : (n : Int) ≤ s.size := by omega
      have q4 : (0 : Int) ≤ n := by omega
      clear hg G V S hF hz
      go_enter Try.func47, Try.ntmps47
      go_wp2_with fail
      refine (bad_any _ _ _ _ HE.out).mono ?_
      rintro e w' ⟨rfl, rfl⟩
      go_wp2_with fail
      refine HC.out.mono ?_
      rintro e w' ⟨rfl, rfl⟩
      go_wp2_with fail
      go_ret
      refine ⟨ret_int HV.out.symm, ?_, grown_setCell _ _ _ _⟩
      rw [HS.out, HG.out]
      exact ⟨HE.out.two.low _, fun h => by cases h⟩
  · obtain rfl := hn rfl
    have G : gone ⟨#[]⟩ true most.toNat = true := rfl
    have V : nV ⟨#[]⟩ true most.toNat = 0 := by unfold nV; rw [G]; rfl
    have HG := Lib.hid G
    have HV := Lib.hid V
    clear G V hn
    go_enter Try.func47, Try.ntmps47
    go_wp2_with fail
    refine (bad_any _ _ _ _ HE.out).mono ?_
    rintro e w' ⟨rfl, rfl⟩
    go_wp2_with fail
    go_ret
    exact ⟨ret_int HV.out.symm, eye_nS HG.out HE.out, grown_refl _ _⟩

set_option maxHeartbeats 400000 in
theorem nat_none (w : World) (most : Int) :
    Calls Try.prog 47 #[.pointer none, .int .u64 most] w fun e w' => e = .returned (.int .u64 0) ∧ w = w' := by
  go_enter Try.func47, Try.ntmps47
  go_wp2_with fail
  refine (bad_none _).mono ?_
  rintro e w' ⟨rfl, rfl⟩
  go_wp2_with fail
  go_ret
  exact ⟨rfl, rfl⟩

set_option maxHeartbeats 400000 in
theorem eye_int (w : World) (B : Nat) (s : ByteArray) (bad : Bool) (hs : s.size ≤ 1000000) (h : Eye w B s bad) :
    Calls Try.prog 48 #[.pointer (some ⟨B, 0, none⟩)] w fun e w' =>
      e = .returned (.int .i64 (zag (nV s bad 18446744073709551615))) ∧ Eye w' B (nS s bad 18446744073709551615) (gone s bad 18446744073709551615) ∧ w.grownBy w' (some B) := by
  have HE := Lib.hid h
  have HC := Lib.hid (eye_nat w B s bad 18446744073709551615 ⟨by decide, by decide⟩ hs h)
  have HW := Lib.hid (nV_word s bad 18446744073709551615)
  clear h
  go_enter Try.func48, Try.ntmps48
  go_wp2_with fail
  refine HC.out.mono ?_
  rintro e w' ⟨rfl, hE, hG⟩
  go_wp2_with fail
  refine (zag_any _ HW.out _).mono ?_
  rintro e w' ⟨rfl, rfl⟩
  go_wp2_with fail
  go_ret
  exact ⟨rfl, hE, hG⟩

set_option maxHeartbeats 400000 in
theorem int_none (w : World) :
    Calls Try.prog 48 #[.pointer none] w fun e w' => e = .returned (.int .i64 0) ∧ w = w' := by
  go_enter Try.func48, Try.ntmps48
  go_wp2_with fail
  refine (nat_none _ _).mono ?_
  rintro e w' ⟨rfl, rfl⟩
  go_wp2_with fail
  refine (zag_any _ ⟨by decide, by decide⟩ _).mono ?_
  rintro e w' ⟨rfl, rfl⟩
  go_wp2_with fail
  go_ret
  exact ⟨ret_int rfl, rfl⟩

/-- Small's most. -/
def sm (n : Int) : Nat := n.toNat

set_option maxHeartbeats 400000 in
theorem eye_small (w : World) (B : Nat) (s : ByteArray) (bad : Bool) (n : Int) (hn : I64 n) (hs : s.size ≤ 1000000) (h : Eye w B s bad) :
    Calls Try.prog 38 #[.pointer (some ⟨B, 0, none⟩), .int .i64 n] w fun e w' =>
      e = .returned (.int .i64 (nV s bad (sm n))) ∧ Eye w' B (nS s bad (sm n)) (gone s bad (sm n)) ∧ w.grownBy w' (some B) := by
  obtain ⟨n0, n1⟩ := hn
  by_cases hlt : n < 0
  · have e0 : sm n = 0 := by unfold sm; omega
    have HC := Lib.hid (eye_nat w B s bad 0 ⟨by decide, by decide⟩ hs h)
    have V : nV s bad 0 = 0 := by have := nV_most s bad 0; have := (nV_word s bad 0).1; omega
    have HV := Lib.hid V
    rw [e0]
    have C : Calls Try.prog 47 #[.pointer (some ⟨B, 0, none⟩), .int .u64 0] w fun e w' =>
      e = .returned (.int .u64 0) ∧ Eye w' B (nS s bad 0) (gone s bad 0) ∧ w.grownBy w' (some B) := HC.out.mono fun e w' hh => ⟨by rw [hh.1]; exact ret_int V, hh.2⟩
    have HC' := Lib.hid C
    clear h C V HC e0
    go_enter Try.func38, Try.ntmps38
    go_wp2_with fail
    refine HC'.out.mono ?_
    rintro e w' ⟨rfl, hE, hG⟩
    go_wp2_with fail
    go_ret
    exact ⟨ret_int HV.out.symm, hE, hG⟩
  · have e0 : sm n = n.toNat := rfl
    have C := eye_nat w B s bad n ⟨by omega, by omega⟩ hs h
    rw [← e0] at C
    have hw := nV_word s bad (sm n)
    have hb := nV_most s bad (sm n)
    have v0 := hw.1
    have v1 : nV s bad (sm n) ≤ n := by rw [e0] at hb ⊢; omega
    generalize hv : nV s bad (sm n) = v at *
    have HC := Lib.hid C
    clear h C hw hb e0 hv
    go_enter Try.func38, Try.ntmps38
    go_wp2_with fail
    refine HC.out.mono ?_
    rintro e w' ⟨rfl, hE, hG⟩
    go_wp2_with fail
    go_ret
    exact ⟨rfl, hE, hG⟩

set_option maxHeartbeats 400000 in
theorem small_none (w : World) (n : Int) (hn : I64 n) :
    Calls Try.prog 38 #[.pointer none, .int .i64 n] w fun e w' => e = .returned (.int .i64 0) ∧ w = w' := by
  obtain ⟨n0, n1⟩ := hn
  by_cases hlt : n < 0
  all_goals
    go_enter Try.func38, Try.ntmps38
    go_wp2_with fail
    refine (nat_none _ _).mono ?_
    rintro e w' ⟨rfl, rfl⟩
    go_wp2_with fail
    go_ret
    exact ⟨ret_int rfl, rfl⟩

/-- Count's answers. -/
def cgone (s : ByteArray) (bad : Bool) : Bool := gone s bad 9223372036854775807 || nV s bad 9223372036854775807 == 0
def cS (s : ByteArray) (bad : Bool) : ByteArray := if cgone s bad then ⟨#[]⟩ else nS s bad 9223372036854775807

set_option maxHeartbeats 400000 in
theorem eye_count (w : World) (B : Nat) (s : ByteArray) (bad : Bool) (hs : s.size ≤ 1000000) (h : Eye w B s bad) :
    Calls Try.prog 49 #[.pointer (some ⟨B, 0, none⟩)] w fun e w' =>
      e = .returned (.int .u64 (nV s bad 9223372036854775807)) ∧ Eye w' B (cS s bad) (cgone s bad) ∧ w.grownBy w' (some B) := by
  have C0 : Calls Try.prog 47 #[.pointer (some ⟨B, 0, none⟩), .int .u64 9223372036854775807] w fun e w' =>
      e = .returned (.int .u64 (nV s bad 9223372036854775807)) ∧ Eye w' B (nS s bad 9223372036854775807) (gone s bad 9223372036854775807) ∧ w.grownBy w' (some B) :=
    eye_nat w B s bad 9223372036854775807 ⟨by decide, by decide⟩ hs h
  have HC := Lib.hid C0
  clear h C0
  by_cases hz : nV s bad 9223372036854775807 = 0
  · have G : cgone s bad = true := by unfold cgone; rw [hz]; simp
    have S : cS s bad = ⟨#[]⟩ := by unfold cS; rw [G]; rfl
    rw [G, S]
    have C : Calls Try.prog 47 #[.pointer (some ⟨B, 0, none⟩), .int .u64 9223372036854775807] w fun e w' =>
      e = .returned (.int .u64 0) ∧ Eye w' B (nS s bad 9223372036854775807) (gone s bad 9223372036854775807) ∧ w.grownBy w' (some B) := HC.out.mono fun e w' hh => ⟨by rw [hh.1]; exact ret_int hz, hh.2⟩
    have HZ := Lib.hid hz
    have HC' := Lib.hid C
    clear C hz G S HC
    go_enter Try.func49, Try.ntmps49
    go_wp2_with fail
    refine HC'.out.mono ?_
    rintro e w' ⟨rfl, hE, hG⟩
    go_wp2_with fail
    refine (shut_any _ _ _ _ hE).mono ?_
    rintro e w2 ⟨rfl, hE2, hG2⟩
    go_wp2_with fail
    go_ret
    exact ⟨ret_int HZ.out.symm, hE2, grown_trans hG hG2⟩
  · have G : gone s bad 9223372036854775807 = false := by
      by_cases hg : gone s bad 9223372036854775807 = true
      · exact absurd (by unfold nV; rw [hg]; rfl) hz
      · simpa using hg
    have G2 : cgone s bad = false := by unfold cgone; rw [G]; simp [hz]
    have S : cS s bad = nS s bad 9223372036854775807 := by unfold cS; rw [G2]; rfl
    rw [G2, S]
    have q1 : (nV s bad 9223372036854775807 == 0) = false := by simpa using hz
    have HGG := Lib.hid G
    clear hz G G2 S
    generalize nV s bad 9223372036854775807 = v at *
    go_enter Try.func49, Try.ntmps49
    go_wp2_with fail
    refine HC.out.mono ?_
    rintro e w' ⟨rfl, hE, hG⟩
    go_wp2_with fail
    go_ret
    rw [HGG.out] at hE
    exact ⟨rfl, hE, hG⟩

set_option maxHeartbeats 400000 in
theorem count_none (w : World) :
    Calls Try.prog 49 #[.pointer none] w fun e w' => e = .returned (.int .u64 0) ∧ w = w' := by
  go_enter Try.func49, Try.ntmps49
  go_wp2_with fail
  refine (nat_none _ _).mono ?_
  rintro e w' ⟨rfl, rfl⟩
  go_wp2_with fail
  refine (shut_none _).mono ?_
  rintro e w' ⟨rfl, rfl⟩
  go_wp2_with fail
  go_ret
  exact ⟨ret_int rfl, rfl⟩

/-- Raw's answers. -/
def rgone (s : ByteArray) (bad : Bool) (n : Int) : Bool := bad || decide (n < 0) || decide ((s.size : Int) < n)
def rV (s : ByteArray) (bad : Bool) (n : Int) : ByteArray := if rgone s bad n then ⟨#[]⟩ else s.extract 0 n.toNat
def rS (s : ByteArray) (bad : Bool) (n : Int) : ByteArray := if rgone s bad n then ⟨#[]⟩ else s.extract n.toNat s.size
theorem rS_size (s : ByteArray) (bad : Bool) (n : Int) : (rS s bad n).size ≤ s.size := by
  unfold rS; split
  · exact Nat.zero_le _
  · rw [Lib.size_eq, Lib.size_eq, ← Lib.toList_data, Lib.extract_toList, List.length_take, List.length_drop]; omega

end Go.Proofs.Ytllnbbfeplgjjaa