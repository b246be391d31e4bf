/-
  The law QuillNumbers, walked.
-/
import Derived.Test.YtpnbhgnpofoeaaaQuillS
namespace Go.Proofs.Ytpnbhgnpofoeaaa
set_option linter.unusedVariables false
set_option linter.unusedSimpArgs false
open Go.RowKit

theorem ext_list (s : ByteArray) (a : Nat) : (s.extract a s.size).data.toList = s.data.toList.drop a := by
  rw [← Lib.toList_data, Lib.extract_toList, Lib.size_eq, List.take_of_length_le (by rw [List.length_drop]; omega)]
/-- An eye on a number's bytes, and more. -/
theorem eye_got {t : ByteArray} {n m : Nat} {r : List UInt8} (hn : n < 18446744073709551616) (hm : n ≤ m) (ht : t.data.toList = natB n ++ r) :
    gone t false m = false ∧ nV t false m = n ∧ (nS t false m).data.toList = r := by
  have K := takS_nat hn hm r
  rw [← ht] at K
  have hp := natB_pos n
  have G : gone t false m = false := by unfold gone; rw [K]; show (false || decide ((natB n).length = 0)) = false; rw [decide_eq_false (by omega)]; rfl
  refine ⟨G, by unfold nV; rw [G, K]; rfl, ?_⟩
  unfold nS; rw [G, K]
  show (t.extract (natB n).length t.size).data.toList = r
  rw [ext_list, ht, List.drop_left]
/-- What the reference tells, and what an eye tells. -/
theorem eye_tak (t : ByteArray) (m a k : Nat) (h : takS t.data.toList m = (a, k)) : nV t false m = a ∧ gone t false m = ((k : Int) == 0) := by
  have G : gone t false m = decide (k = 0) := by unfold gone; rw [h]; rfl
  refine ⟨?_, ?_⟩
  · unfold nV; rw [G, h]
    by_cases hk : k = 0
    · have := takS_zero (l := t.data.toList) (m := m) (by rw [h]; exact hk)
      rw [h] at this
      have ha : a = 0 := this
      simp [hk, ha]
    · simp [hk]
  · rw [G]; by_cases hk : k = 0 <;> simp [hk]

set_option maxRecDepth 1000000 in
set_option maxHeartbeats 2000000 in
theorem lnumbers_short (s : ByteArray) (most n : Int) (hm : Word most) (hn : Word n) (hs : s.size ≤ 100) (w : World) :
    Calls Try.prog 5 #[.string s, .int .u64 most, .int .u64 n] w fun e w' => e = .returned (.bool true) ∧ Below w.heap.size w w' := by
  have q0 : ¬ (100 : Int) < s.size := by omega
  have HW := Lib.hid hn
  have HM := Lib.hid hm
  have n0 := hn.1
  have n1 := hn.2
  have HL : Hid ((natB n.toNat).length ≤ 10) := Lib.hid (natB_len10 (by omega))
  obtain ⟨t, ht⟩ : ∃ t : ByteArray, t = ⟨([] ++ (natB n.toNat ++ natB n.toNat)).toArray⟩ := ⟨_, rfl⟩
  have HT := Lib.hid ht
  have tl : t.data.toList = natB n.toNat ++ natB n.toNat := by rw [ht]; rfl
  have tz : t.size ≤ 65536 := by rw [Lib.size_eq, tl, List.length_append]; have := HL.out; omega
  obtain ⟨G, V, S⟩ := eye_got (m := n.toNat) (by omega) (Nat.le_refl _) tl
  rw [show ((n.toNat : Nat) : Int) = n from by omega] at V
  obtain ⟨r, hr⟩ : ∃ r : ByteArray, r = nS t false n.toNat := ⟨_, rfl⟩
  rw [← hr] at S
  have S' : r.data.toList = natB n.toNat ++ [] := by rw [S, List.append_nil]
  have rz : r.size ≤ 65536 := by rw [Lib.size_eq, S]; have := HL.out; omega
  obtain ⟨G2, V2, S2⟩ := eye_got (m := 18446744073709551615) (by omega) (by omega) S'
  rw [show ((n.toNat : Nat) : Int) = n from by omega] at V2
  obtain ⟨r2, hr2⟩ : ∃ r2 : ByteArray, r2 = nS r false 18446744073709551615 := ⟨_, rfl⟩
  rw [← hr2] at S2
  have HG := Lib.hid G
  have HV := Lib.hid V
  have HS := Lib.hid hr
  have HG2 := Lib.hid G2
  have HV2 := Lib.hid V2
  have HS2 := Lib.hid hr2
  have HO : Hid ((!false && r2.toList.isEmpty) = true) := Lib.hid (by rw [Lib.toList_data, S2]; rfl)
  obtain ⟨a, k, hak⟩ : ∃ a k, takS s.data.toList most.toNat = (a, k) := ⟨_, _, rfl⟩
  obtain ⟨E1, E2⟩ := eye_tak s most.toNat a k hak
  have HA := Lib.hid hak
  have HE1 := Lib.hid E1
  have HE2 := Lib.hid E2
  clear ht tl G V S hr hn hm S' G2 V2 S2 hr2 hak E1 E2
  go_enter Try.func5, Try.ntmps5
  go_wp2_with fail
  refine (lalive_any _).mono ?_
  rintro e w0 ⟨rfl, b0⟩
  have z0 := b0.size
  go_wp2_with fail
  refine (on_any _ _).mono ?_
  rintro e w1 ⟨rfl, e1, b1', y1⟩
  have b1 : Below w.heap.size w w1 := b0.trans (b1'.mono z0)
  have z1 := b1.size
  clear b1' y1
  go_wp2_with fail
  refine (eye_nat _ _ _ _ most HM.out (by omega) e1).mono ?_
  rintro e w2 ⟨rfl, e2, g2⟩
  rw [HE1.out]
  rw [HE2.out] at e2
  have b2 : Below w.heap.size w w2 := below_eye b1 g2 z0 z1
  have z2 := b2.size
  clear e1 g2
  go_wp2_with fail
  refine (taken_any s most HM.out (by omega) _).mono ?_
  rintro e w3 ⟨rfl, b3'⟩
  rw [HA.out]
  have e3 := e2.call b3'
  have b3 : Below w.heap.size w w3 := b2.trans (b3'.mono z2)
  have z3 := b3.size
  clear e2 b3'
  have hq0 := Quil.new w3
  go_wp2_with fail
  refine (quil_nat2 _ w3.heap.size (w3.heap.size + 1) 2 [] _ _ HW.out HW.out (by simp) (hq0.alloc _) (by have := heap_alloc_new (w3.alloc (.cells #[.slice none 0 0] 49)); simpa using this _)).mono ?_
  rintro e w4 ⟨rfl, hq, hwr⟩
  have k4 : Below w3.heap.size w3 w4 := (((Below.refl _ _).alloc (Nat.le_refl _) _).alloc (by simp) _).trans hwr.below
  have e4 := e3.call k4
  have b4 : Below w.heap.size w w4 := b3.trans (k4.mono z3)
  have z4 := b4.size
  clear hq0 hwr k4 e3
  go_wp2_with fail
  refine (quil_text _ _ _ hq).mono ?_
  rintro e w' ⟨rfl, rfl⟩
  rw [← HT.out]
  go_wp2_with fail
  refine (on_any _ _).mono ?_
  rintro e w5 ⟨rfl, f5, b5', y5⟩
  have e5 := e4.call b5'
  have b5 : Below w.heap.size w w5 := b4.trans (b5'.mono z4)
  have z5 := b5.size
  clear hq b5' y5 e4
  go_wp2_with fail
  refine (bad_any _ _ _ _ e5).mono ?_
  rintro e w' ⟨rfl, rfl⟩
  go_wp2_with fail
  refine (eye_nat _ _ _ _ n HW.out tz f5).mono ?_
  rintro e w6 ⟨rfl, f6, g6⟩
  rw [HV.out]
  rw [← HS.out, HG.out] at f6
  have b6 : Below w.heap.size w w6 := below_eye b5 g6 z4 z5
  have z6 := b6.size
  clear f5 g6 e5
  go_wp2_with fail
  refine (eye_nat _ _ _ _ 18446744073709551615 ⟨by decide, by decide⟩ rz f6).mono ?_
  rintro e w7 ⟨rfl, f7, g7⟩
  have HV2' : nV r false (Int.toNat 18446744073709551615) = n := HV2.out
  have HG2' : gone r false (Int.toNat 18446744073709551615) = false := HG2.out
  have HS2' : nS r false (Int.toNat 18446744073709551615) = r2 := HS2.out.symm
  rw [HV2']
  rw [HS2', HG2'] at f7
  have b7 : Below w.heap.size w w7 := below_eye b6 g7 z4 z6
  clear f6 g7 HV2' HG2' HS2'
  go_wp2_with fail
  refine (over_is _ _ _ _ true f7 HO.out).mono ?_
  rintro e w' ⟨rfl, rfl⟩
  go_wp2_with fail
  go_ret
  exact ⟨rfl, b7⟩

set_option maxHeartbeats 400000 in
theorem lnumbers_long (s : ByteArray) (most n : Int) (hs : 100 < s.size) (w : World) :
    Calls Try.prog 5 #[.string s, .int .u64 most, .int .u64 n] w fun e w' => e = .returned (.bool true) ∧ Below w.heap.size w w' := by
  have q0 : (100 : Int) < s.size := by omega
  go_enter Try.func5, Try.ntmps5
  go_wp2_with fail
  refine (lalive_any _).mono ?_
  rintro e w0 ⟨rfl, b0⟩
  go_wp2_with fail
  go_ret
  exact ⟨rfl, b0⟩

theorem lnumbers_walk (s : ByteArray) (most n : Int) (hw : s.size ≤ maxLen) (hm : Word most) (hn : Word n) (w : World) :
    Calls Try.prog 5 #[.string s, .int .u64 most, .int .u64 n] w fun e w' => e = .returned (.bool true) ∧ Below w.heap.size w w' := by
  by_cases hs : s.size ≤ 100
  · exact lnumbers_short s most n hm hn hs w
  · exact lnumbers_long s most n (by omega) w
end Go.Proofs.Ytpnbhgnpofoeaaa
