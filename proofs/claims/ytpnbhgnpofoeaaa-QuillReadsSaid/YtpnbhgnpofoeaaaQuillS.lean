/-
  The law QuillSmall, walked.
-/
import Derived.Test.YtpnbhgnpofoeaaaQuillD
namespace Go.Proofs.Ytpnbhgnpofoeaaa
set_option linter.unusedVariables false
set_option linter.unusedSimpArgs false
open Go.RowKit

theorem mk_toList (l : List UInt8) : (⟨l.toArray⟩ : ByteArray).data.toList = l := rfl
theorem mk_size (l : List UInt8) : (⟨l.toArray⟩ : ByteArray).size = l.length := by rw [Lib.size_eq]
theorem ext_size (s : ByteArray) (a : Nat) : (s.extract a s.size).size = s.size - a := by
  rw [Lib.size_eq, ← Lib.toList_data, Lib.extract_toList, Lib.size_eq, List.length_take, List.length_drop]; omega
theorem below_eye {n : Nat} {a w w' : World} {B : Nat} (h : Below n a w) (hg : w.grownBy w' (some B)) (hB : n ≤ B) (hs : n ≤ w.heap.size) : Below n a w' := h.trans (grown_below hg hB hs)

theorem left_is (w : World) (B : Nat) (s : ByteArray) (bad : Bool) (n : Int) (h : Eye w B s bad) (hn : (s.size : Int) = n) :
    Calls Try.prog 17 #[.pointer (some ⟨B, 0, none⟩)] w fun e w' => e = .returned (.int .i64 n) ∧ w = w' :=
  (left_any w B s bad h).mono fun e w' hh => ⟨by rw [hh.1, hn], hh.2⟩
theorem raw_bad (w : World) (B : Nat) (n : Int) (h : Eye w B ⟨#[]⟩ true) :
    Calls Try.prog 14 #[.pointer (some ⟨B, 0, none⟩), .int .i64 n] w fun e w' =>
      e = .returned (.string ⟨#[]⟩) ∧ Eye w' B ⟨#[]⟩ true ∧ w.grownBy w' (some B) := by
  have C := eye_raw w B ⟨#[]⟩ true n (by decide) h
  have G : rgone ⟨#[]⟩ true n = true := rfl
  have V : rV ⟨#[]⟩ true n = ⟨#[]⟩ := by unfold rV; rw [G]; rfl
  have S : rS ⟨#[]⟩ true n = ⟨#[]⟩ := by unfold rS; rw [G]; rfl
  rw [G, V, S] at C
  exact C

set_option maxRecDepth 1000000 in
set_option maxHeartbeats 2000000 in
theorem small_over (n most : Int) (s : ByteArray) (hn : Word n) (hm : I64 most) (hs : s.size ≤ 100) (hov : max most 0 < n) (w : World) :
    Calls Try.prog 7 #[.int .u64 n, .int .i64 most, .string s] w fun e w' => e = .returned (.bool true) ∧ Below w.heap.size w w' := by
  have q0 : ¬ (100 : Int) < s.size := by omega
  have HW := Lib.hid hn
  have HM := Lib.hid hm
  have n0 := hn.1
  have n1 := hn.2
  have m0 := hm.1
  have m1 := hm.2
  have HL : Hid ((natB n.toNat).length ≤ 10) := Lib.hid (natB_len10 (by omega))
  obtain ⟨t, ht⟩ : ∃ t : ByteArray, t = ⟨([] ++ natB n.toNat ++ s.data.toList).toArray⟩ := ⟨_, rfl⟩
  have HT := Lib.hid ht
  have tl : t.data.toList = natB n.toNat ++ s.data.toList := by rw [ht]; rfl
  have tz : t.size ≤ 65536 := by rw [Lib.size_eq, tl, List.length_append, ← Lib.size_eq]; have := HL.out; omega
  have K1 : takS t.data.toList (sm most) = (0, 0) := by rw [tl]; exact takS_over (by omega) (by unfold sm; omega) _
  have G : gone t false (sm most) = true := by unfold gone; rw [K1]; rfl
  have V : nV t false (sm most) = 0 := by unfold nV; rw [G]; rfl
  have S : nS t false (sm most) = ⟨#[]⟩ := by unfold nS; rw [G]; rfl
  have HG := Lib.hid G
  have HV := Lib.hid V
  have HS := Lib.hid S
  clear ht tl K1 G V S hn hm
  by_cases hlt : most < 0
  all_goals
    have q1 : ¬ n ≤ max most 0 := by omega
    have q2 : 0 < n := by omega
    go_enter Try.func7, Try.ntmps7
    go_wp2_with fail
    refine (lalive_any _).mono ?_
    rintro e w0 ⟨rfl, b0⟩
    have z0 := b0.size
    have hq0 := Quil.new w0
    go_wp2_with fail
    refine (quil_nat1 _ w0.heap.size (w0.heap.size + 1) 1 [] n HW.out (by simp) (hq0.alloc _) (by have := heap_alloc_new (w0.alloc (.cells #[.slice none 0 0] 49)) (.cells #[.int .u64 n] 29); simpa using this)).mono ?_
    rintro e w1 ⟨rfl, hq, hwr⟩
    have b1 : Below w.heap.size w w1 := ((b0.alloc z0 _).alloc (by simp; omega) _).trans (hwr.below.mono z0)
    have z1 := b1.size
    have Z1 := Lib.hid (hq.lt)
    clear hq0 hwr
    go_wp2_with fail
    refine (quil_raw _ _ _ s (by omega) (by rw [List.nil_append]; have := HL.out; omega) hq).mono ?_
    rintro e w2 ⟨rfl, hq2, hwr2⟩
    have b2 : Below w.heap.size w w2 := b1.trans (hwr2.below.mono z0)
    have z2 := b2.size
    clear hq hwr2
    go_wp2_with fail
    refine (quil_text _ _ _ hq2).mono ?_
    rintro e w' ⟨rfl, rfl⟩
    rw [← HT.out]
    go_wp2_with fail
    refine (on_any _ _).mono ?_
    rintro e w3 ⟨rfl, e3, b3', y3⟩
    have b3 : Below w.heap.size w w3 := b2.trans (b3'.mono z2)
    have z3 := b3.size
    have Y3 := Lib.hid y3
    clear hq2 b3' y3
    go_wp2_with fail
    refine (eye_small _ _ _ _ most HM.out tz e3).mono ?_
    rintro e w4 ⟨rfl, e4, g4⟩
    rw [HV.out]
    rw [HS.out, HG.out] at e4
    have b4 : Below w.heap.size w w4 := below_eye b3 g4 z2 z3
    have z4 := b4.size
    clear e3 g4
    go_wp2_with fail
    refine (bad_any _ _ _ _ e4).mono ?_
    rintro e w' ⟨rfl, rfl⟩
    go_wp2_with fail
    refine (left_is _ _ _ _ 0 e4 rfl).mono ?_
    rintro e w' ⟨rfl, rfl⟩
    go_wp2_with fail
    refine (raw_bad _ _ _ e4).mono ?_
    rintro e w5 ⟨rfl, e5, g5⟩
    have b5 : Below w.heap.size w w5 := below_eye b4 g5 z2 z4
    clear e4 g5
    go_wp2_with fail
    refine (over_is _ _ _ _ false e5 rfl).mono ?_
    rintro e w' ⟨rfl, rfl⟩
    go_wp2_with fail
    go_ret
    exact ⟨rfl, b5⟩

set_option maxRecDepth 1000000 in
set_option maxHeartbeats 2000000 in
theorem small_fine (n most : Int) (s : ByteArray) (hn : Word n) (hm : I64 most) (hs : s.size ≤ 100) (hov : n ≤ max most 0) (w : World) :
    Calls Try.prog 7 #[.int .u64 n, .int .i64 most, .string s] w fun e w' => e = .returned (.bool true) ∧ Below w.heap.size w w' := by
  have q0 : ¬ (100 : Int) < s.size := by omega
  have HW := Lib.hid hn
  have HM := Lib.hid hm
  have n0 := hn.1
  have n1 : n ≤ 9223372036854775807 := by have := hm.2; omega
  have m0 := hm.1
  have m1 := hm.2
  have HL : Hid ((natB n.toNat).length ≤ 10) := Lib.hid (natB_len10 (by omega))
  obtain ⟨t, ht⟩ : ∃ t : ByteArray, t = ⟨([] ++ natB n.toNat ++ s.data.toList).toArray⟩ := ⟨_, rfl⟩
  have HT := Lib.hid ht
  have tl : t.data.toList = natB n.toNat ++ s.data.toList := by rw [ht]; rfl
  have tz : t.size ≤ 65536 := by rw [Lib.size_eq, tl, List.length_append, ← Lib.size_eq]; have := HL.out; omega
  have K1 : takS t.data.toList (sm most) = (n.toNat, (natB n.toNat).length) := by rw [tl]; exact takS_nat (by omega) (by unfold sm; omega) _
  have G : gone t false (sm most) = false := by unfold gone; rw [K1]; have := natB_pos n.toNat; show (false || decide ((natB n.toNat).length = 0)) = false; rw [decide_eq_false (by omega)]; rfl
  have V : nV t false (sm most) = n := by unfold nV; rw [G, K1]; simp; omega
  obtain ⟨r, hr⟩ : ∃ r : ByteArray, r = nS t false (sm most) := ⟨_, rfl⟩
  have rz : (r.size : Int) = s.size := by
    have : r.size = s.size := by
      rw [hr]; unfold nS; rw [G, K1]
      show (t.extract (natB n.toNat).length t.size).size = s.size
      rw [ext_size, Lib.size_eq, tl, List.length_append, ← Lib.size_eq]; omega
    omega
  have HG := Lib.hid G
  have HV := Lib.hid V
  have HS := Lib.hid hr
  have HR := Lib.hid rz
  clear ht tl K1 G V hr rz hn hm
  have hc : (most < 0 ∧ n = 0) ∨ (0 ≤ most ∧ n ≤ most) := by omega
  rcases hc with ⟨hlt, rfl⟩ | ⟨hlt, q2⟩
  all_goals
    go_enter Try.func7, Try.ntmps7
    go_wp2_with fail
    refine (lalive_any _).mono ?_
    rintro e w0 ⟨rfl, b0⟩
    have z0 := b0.size
    have hq0 := Quil.new w0
    go_wp2_with fail
    refine (quil_nat1 _ w0.heap.size (w0.heap.size + 1) 1 [] _ HW.out (by simp) (hq0.alloc _) (by have := heap_alloc_new (w0.alloc (.cells #[.slice none 0 0] 49)); simpa using this _)).mono ?_
    rintro e w1 ⟨rfl, hq, hwr⟩
    have b1 : Below w.heap.size w w1 := ((b0.alloc z0 _).alloc (by simp; omega) _).trans (hwr.below.mono z0)
    have z1 := b1.size
    have Z1 := Lib.hid (hq.lt)
    clear hq0 hwr
    go_wp2_with fail
    refine (quil_raw _ _ _ s (by omega) (by rw [List.nil_append]; have := HL.out; omega) hq).mono ?_
    rintro e w2 ⟨rfl, hq2, hwr2⟩
    have b2 : Below w.heap.size w w2 := b1.trans (hwr2.below.mono z0)
    have z2 := b2.size
    clear hq hwr2
    go_wp2_with fail
    refine (quil_text _ _ _ hq2).mono ?_
    rintro e w' ⟨rfl, rfl⟩
    rw [← HT.out]
    go_wp2_with fail
    refine (on_any _ _).mono ?_
    rintro e w3 ⟨rfl, e3, b3', y3⟩
    have b3 : Below w.heap.size w w3 := b2.trans (b3'.mono z2)
    have z3 := b3.size
    have Y3 := Lib.hid y3
    clear hq2 b3' y3
    go_wp2_with fail
    refine (eye_small _ _ _ _ most HM.out tz e3).mono ?_
    rintro e w4 ⟨rfl, e4, g4⟩
    rw [HV.out]
    rw [← HS.out, HG.out] at e4
    have b4 : Below w.heap.size w w4 := below_eye b3 g4 z2 z3
    have z4 := b4.size
    clear e3 g4
    go_wp2_with fail
    refine (bad_any _ _ _ _ e4).mono ?_
    rintro e w' ⟨rfl, rfl⟩
    go_wp2_with fail
    refine (left_is _ _ _ _ _ e4 HR.out).mono ?_
    rintro e w' ⟨rfl, rfl⟩
    go_wp2_with fail
    go_ret
    exact ⟨rfl, b4⟩

set_option maxHeartbeats 400000 in
theorem small_long (n most : Int) (s : ByteArray) (hs : 100 < s.size) (w : World) :
    Calls Try.prog 7 #[.int .u64 n, .int .i64 most, .string s] w fun e w' => e = .returned (.bool true) ∧ Below w.heap.size w w' := by
  have q0 : (100 : Int) < s.size := by omega
  go_enter Try.func7, Try.ntmps7
  go_wp2_with fail
  refine (lalive_any _).mono ?_
  rintro e w0 ⟨rfl, b0⟩
  go_wp2_with fail
  go_ret
  exact ⟨rfl, b0⟩

theorem lsmall_walk (n most : Int) (s : ByteArray) (hn : Word n) (hm : I64 most) (hw : s.size ≤ maxLen) (w : World) :
    Calls Try.prog 7 #[.int .u64 n, .int .i64 most, .string s] w fun e w' => e = .returned (.bool true) ∧ Below w.heap.size w w' := by
  by_cases hs : s.size ≤ 100
  · by_cases hov : max most 0 < n
    · exact small_over n most s hn hm hs hov w
    · exact small_fine n most s hn hm hs (by omega) w
  · exact small_long n most s (by omega) w
end Go.Proofs.Ytpnbhgnpofoeaaa
