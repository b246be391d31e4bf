/-
  Walks: the numbers that texts tell: share's and the reference's.
-/
import Derived.Test.YtbllnhkfnbadgaaShareA
import Derived.Laws.RangeAny
import Derived.Laws.RangeString
import Derived.LoopTactic
import Derived.Lib.Strings
namespace Go.Proofs.Ytbllnhkfnbadgaa
set_option linter.unusedVariables false
set_option linter.unusedSimpArgs false
open Go.RowKit

theorem head_cases (s : ByteArray) :
    (s.toList = [] ∧ numH s.data.toList = true) ∨ (¬ s.toList = [] ∧ 18 < s.size ∧ numH s.data.toList = true) ∨
    (¬ s.toList = [] ∧ s.size ≤ 18 ∧ 1 < s.size ∧ (∃ h : 0 < s.size, (s[0]'h).toNat = 48) ∧ numH s.data.toList = true) ∨
    (¬ s.toList = [] ∧ s.size ≤ 18 ∧ 1 < s.size ∧ (∃ h : 0 < s.size, ¬ (s[0]'h).toNat = 48) ∧ numH s.data.toList = false) ∨
    (¬ s.toList = [] ∧ s.size = 1 ∧ numH s.data.toList = false) := by
  rw [Lib.toList_data]
  obtain ⟨⟨l⟩⟩ := s
  show (l = [] ∧ numH l = true) ∨ (¬ l = [] ∧ 18 < l.length ∧ numH l = true) ∨ (¬ l = [] ∧ l.length ≤ 18 ∧ 1 < l.length ∧ (∃ h : 0 < l.length, (l[0]'h).toNat = 48) ∧ numH l = true) ∨
    (¬ l = [] ∧ l.length ≤ 18 ∧ 1 < l.length ∧ (∃ h : 0 < l.length, ¬ (l[0]'h).toNat = 48) ∧ numH l = false) ∨ (¬ l = [] ∧ l.length = 1 ∧ numH l = false)
  cases l with
  | nil => exact Or.inl ⟨rfl, rfl⟩
  | cons b r =>
    have hb : (b == 48) = decide (b.toNat = 48) := by
      rw [Bool.eq_iff_iff]; simp only [beq_iff_eq, decide_eq_true_eq]
      constructor
      · rintro rfl; rfl
      · intro h; exact UInt8.toNat_inj.1 h
    unfold numH
    simp only [List.getD_cons_zero, hb, List.length_cons, List.getElem_cons_zero]
    by_cases h1 : 18 < r.length + 1
    · right; left; refine ⟨by simp, h1, by simp [h1]⟩
    · by_cases h2 : 1 < r.length + 1
      · by_cases h3 : b.toNat = 48
        · right; right; left; refine ⟨by simp, by omega, h2, ⟨by omega, h3⟩, ?_⟩
          rw [decide_eq_true h2, decide_eq_true h3]; simp
        · right; right; right; left; refine ⟨by simp, by omega, h2, ⟨by omega, h3⟩, ?_⟩
          rw [decide_eq_false h3, decide_eq_false h1]; simp
      · right; right; right; right; refine ⟨by simp, by omega, ?_⟩
        rw [decide_eq_false h2, decide_eq_false h1]; simp

theorem byte_at (s : ByteArray) (k : Nat) (h : k < s.size) : s.data.toList[k]? = some (s[k]'h) := by
  obtain ⟨⟨l⟩⟩ := s
  exact List.getElem?_eq_getElem h

set_option maxRecDepth 1000000 in
set_option maxHeartbeats 1000000 in
theorem number_any (s : ByteArray) (w : World) :
    Calls Try.prog 34 #[.string s] w fun e w' =>
      e = .returned (.tuple #[.int .u64 (numV s.data.toList), .bool (numO s.data.toList)]) ∧ Below w.heap.size w w' := by
  have HX := Lib.hid (byte_at s)
  rcases head_cases s with ⟨h1, hN⟩ | ⟨h1, h2, hN⟩ | ⟨h1, h2, h3, ⟨h4, h5⟩, hN⟩ | ⟨h1, h2, h3, ⟨h4, h5⟩, hN⟩ | ⟨h1, h2, hN⟩
  · have E := Lib.hid (num_head hN)
    have q1 : s.toList.isEmpty = true := by rw [h1]; rfl
    clear hN
    go_enter Try.func34, Try.ntmps34
    go_wp2_with fail
    go_ret2
    exact ⟨ret_pair3 E.out.2.symm E.out.1.symm, Below.refl _ _⟩
  · have E := Lib.hid (num_head hN)
    have q1 : s.toList.isEmpty = false := by simp [h1]
    have q2 : (18 : Int) < s.size := by omega
    clear hN
    go_enter Try.func34, Try.ntmps34
    go_wp2_with fail
    go_ret2
    exact ⟨ret_pair3 E.out.2.symm E.out.1.symm, Below.refl _ _⟩
  · have E := Lib.hid (num_head hN)
    have q1 : s.toList.isEmpty = false := by simp [h1]
    have q2 : ¬ (18 : Int) < s.size := by omega
    have q3 : (1 : Int) < s.size := by omega
    have q4 : ((s[0].toNat : Int) == 48) = true := by simp [h5]
    clear hN
    go_enter Try.func34, Try.ntmps34
    go_wp2_with fail
    go_ret2
    exact ⟨ret_pair3 E.out.2.symm E.out.1.symm, Below.refl _ _⟩
  · have hN' := Lib.hid hN
    have q1 : s.toList.isEmpty = false := by simp [h1]
    have q2 : ¬ (18 : Int) < s.size := by omega
    have q3 : (1 : Int) < s.size := by omega
    have q4 : ((s[0].toNat : Int) == 48) = false := by simp; omega
    clear hN
    go_enter Try.func34, Try.ntmps34
    go_wp2_with fail
    go_loopw [4] (fun n w' => ∃ k : Nat, k ≤ s.size ∧ w' = w.iter s k ∧ n = .int .u64 (valN (s.data.toList.take k) 0) ∧ (s.data.toList.take k).all digB = true) (fun _ w' => s.size - w'.iterPos w.heap.size)
    case atStart => exact ⟨0, Nat.zero_le _, rfl, rfl, rfl⟩
    case round =>
      obtain ⟨k, hk, rfl, rfl, hA⟩ := hrel
      by_cases hp : k < s.size
      · have hx := HX.out k hp
        have n2 := valN_small hA (by omega)
        have n0 := n2.1
        have n1 := n2.2
        clear n2
        by_cases hd : digB (s[k]'hp) = true
        · have N := Lib.hid (valN_take hx)
          have A2 := Lib.hid ((all_take hx).trans (by rw [hA, hd]))
          have hd' := hd
          unfold digB at hd'
          simp only [Bool.and_eq_true, decide_eq_true_eq] at hd'
          obtain ⟨d0, d1⟩ := hd'
          have hr := decode_ascii s k hp (by omega)
          have hnx0 := fun ty => run_next_any (P := Try.prog) w s k ty hp
          rw [hr] at hnx0
          clear hr hx hd hA
          generalize valN (List.take k s.data.toList) 0 = n at *
          generalize (s[k]'hp).toNat = d at *
          have hnx : ∀ ty, (Instr.next (.pointer (some ⟨w.heap.size, 0, none⟩)) true ty).run Try.prog (w.iter s k) = .ok (.tuple #[.bool true, .int .i64 k, .int .i32 (d : Int)]) (w.iter s (k + 1)) := hnx0
          clear hnx0
          have i1 : ¬ (d : Int) < 48 := by omega
          have i2 : ¬ 57 < (d : Int) := by omega
          have i3 : 10 * n < 18446744073709551616 := by omega
          have i4 : 10 * n + ((d : Int) - 48) < 18446744073709551616 := by omega
          go_wp2_with fail
          go_roundw
          case rel => exact ⟨k + 1, hp, rfl, by rw [N.out], A2.out⟩
          case measure => simp; omega
        · have hd2 : digB (s[k]'hp) = false := by simpa using hd
          have E := Lib.hid (num_not (all_not hx hd2))
          have hR : ∃ R wd : Nat, (Utf8.decode s k) = (R, wd) ∧ (R < 48 ∨ 57 < R) := by
            refine ⟨(Utf8.decode s k).1, (Utf8.decode s k).2, rfl, ?_⟩
            by_cases h8 : (s[k]'hp).toNat < 128
            · rw [decode_ascii s k hp h8]
              unfold digB at hd2
              simp only [Bool.and_eq_false_iff, decide_eq_false_iff_not] at hd2
              show (s[k]'hp).toNat < 48 ∨ 57 < (s[k]'hp).toNat
              omega
            · have := (decode_high s k hp (by omega)).1
              omega
          obtain ⟨R, wd, hr, hR⟩ := hR
          have hnx0 := fun ty => run_next_any (P := Try.prog) w s k ty hp
          rw [hr] at hnx0
          clear hr hx hd hA hd2
          generalize valN (List.take k s.data.toList) 0 = n at *
          have hnx : ∀ ty, (Instr.next (.pointer (some ⟨w.heap.size, 0, none⟩)) true ty).run Try.prog (w.iter s k) = .ok (.tuple #[.bool true, .int .i64 k, .int .i32 (R : Int)]) (w.iter s (k + wd)) := hnx0
          clear hnx0
          rcases hR with hR | hR
          · have i1 : (R : Int) < 48 := by omega
            go_wp2_with fail
            go_ret2
            exact ⟨ret_pair3 E.out.2.symm E.out.1.symm, (Below.refl _ _).alloc (Nat.le_refl _) _⟩
          · have i1 : ¬ (R : Int) < 48 := by omega
            have i2 : 57 < (R : Int) := by omega
            go_wp2_with fail
            go_ret2
            exact ⟨ret_pair3 E.out.2.symm E.out.1.symm, (Below.refl _ _).alloc (Nat.le_refl _) _⟩
      · have e1 : k = s.data.toList.length := by rw [← Lib.size_eq]; omega
        have e2 : s.data.toList.take k = s.data.toList := by rw [e1, List.take_length]
        rw [e2] at hA ⊢
        have E := Lib.hid (num_all hN'.out hA)
        have hnx : ∀ ty, (Instr.next (.pointer (some ⟨w.heap.size, 0, none⟩)) true ty).run Try.prog (w.iter s k) = .ok (.tuple #[.bool false]) (w.iter s k) := fun ty => run_next_end w s k ty hp
        clear e1 e2 hA
        go_wp2_with fail
        go_ret2
        exact ⟨ret_pair3 E.out.2.symm E.out.1.symm, (Below.refl _ _).alloc (Nat.le_refl _) _⟩
  · have hN' := Lib.hid hN
    have q1 : s.toList.isEmpty = false := by simp [h1]
    have q2 : ¬ (18 : Int) < s.size := by omega
    have q3 : ¬ (1 : Int) < s.size := by omega
    clear hN
    go_enter Try.func34, Try.ntmps34
    go_wp2_with fail
    go_loopw [4] (fun n w' => ∃ k : Nat, k ≤ s.size ∧ w' = w.iter s k ∧ n = .int .u64 (valN (s.data.toList.take k) 0) ∧ (s.data.toList.take k).all digB = true) (fun _ w' => s.size - w'.iterPos w.heap.size)
    case atStart => exact ⟨0, Nat.zero_le _, rfl, rfl, rfl⟩
    case round =>
      obtain ⟨k, hk, rfl, rfl, hA⟩ := hrel
      by_cases hp : k < s.size
      · have hx := HX.out k hp
        have n2 := valN_small hA (by omega)
        have n0 := n2.1
        have n1 := n2.2
        clear n2
        by_cases hd : digB (s[k]'hp) = true
        · have N := Lib.hid (valN_take hx)
          have A2 := Lib.hid ((all_take hx).trans (by rw [hA, hd]))
          have hd' := hd
          unfold digB at hd'
          simp only [Bool.and_eq_true, decide_eq_true_eq] at hd'
          obtain ⟨d0, d1⟩ := hd'
          have hr := decode_ascii s k hp (by omega)
          have hnx0 := fun ty => run_next_any (P := Try.prog) w s k ty hp
          rw [hr] at hnx0
          clear hr hx hd hA
          generalize valN (List.take k s.data.toList) 0 = n at *
          generalize (s[k]'hp).toNat = d at *
          have hnx : ∀ ty, (Instr.next (.pointer (some ⟨w.heap.size, 0, none⟩)) true ty).run Try.prog (w.iter s k) = .ok (.tuple #[.bool true, .int .i64 k, .int .i32 (d : Int)]) (w.iter s (k + 1)) := hnx0
          clear hnx0
          have i1 : ¬ (d : Int) < 48 := by omega
          have i2 : ¬ 57 < (d : Int) := by omega
          have i3 : 10 * n < 18446744073709551616 := by omega
          have i4 : 10 * n + ((d : Int) - 48) < 18446744073709551616 := by omega
          go_wp2_with fail
          go_roundw
          case rel => exact ⟨k + 1, hp, rfl, by rw [N.out], A2.out⟩
          case measure => simp; omega
        · have hd2 : digB (s[k]'hp) = false := by simpa using hd
          have E := Lib.hid (num_not (all_not hx hd2))
          have hR : ∃ R wd : Nat, (Utf8.decode s k) = (R, wd) ∧ (R < 48 ∨ 57 < R) := by
            refine ⟨(Utf8.decode s k).1, (Utf8.decode s k).2, rfl, ?_⟩
            by_cases h8 : (s[k]'hp).toNat < 128
            · rw [decode_ascii s k hp h8]
              unfold digB at hd2
              simp only [Bool.and_eq_false_iff, decide_eq_false_iff_not] at hd2
              show (s[k]'hp).toNat < 48 ∨ 57 < (s[k]'hp).toNat
              omega
            · have := (decode_high s k hp (by omega)).1
              omega
          obtain ⟨R, wd, hr, hR⟩ := hR
          have hnx0 := fun ty => run_next_any (P := Try.prog) w s k ty hp
          rw [hr] at hnx0
          clear hr hx hd hA hd2
          generalize valN (List.take k s.data.toList) 0 = n at *
          have hnx : ∀ ty, (Instr.next (.pointer (some ⟨w.heap.size, 0, none⟩)) true ty).run Try.prog (w.iter s k) = .ok (.tuple #[.bool true, .int .i64 k, .int .i32 (R : Int)]) (w.iter s (k + wd)) := hnx0
          clear hnx0
          rcases hR with hR | hR
          · have i1 : (R : Int) < 48 := by omega
            go_wp2_with fail
            go_ret2
            exact ⟨ret_pair3 E.out.2.symm E.out.1.symm, (Below.refl _ _).alloc (Nat.le_refl _) _⟩
          · have i1 : ¬ (R : Int) < 48 := by omega
            have i2 : 57 < (R : Int) := by omega
            go_wp2_with fail
            go_ret2
            exact ⟨ret_pair3 E.out.2.symm E.out.1.symm, (Below.refl _ _).alloc (Nat.le_refl _) _⟩
      · have e1 : k = s.data.toList.length := by rw [← Lib.size_eq]; omega
        have e2 : s.data.toList.take k = s.data.toList := by rw [e1, List.take_length]
        rw [e2] at hA ⊢
        have E := Lib.hid (num_all hN'.out hA)
        have hnx : ∀ ty, (Instr.next (.pointer (some ⟨w.heap.size, 0, none⟩)) true ty).run Try.prog (w.iter s k) = .ok (.tuple #[.bool false]) (w.iter s k) := fun ty => run_next_end w s k ty hp
        clear e1 e2 hA
        go_wp2_with fail
        go_ret2
        exact ⟨ret_pair3 E.out.2.symm E.out.1.symm, (Below.refl _ _).alloc (Nat.le_refl _) _⟩

set_option maxRecDepth 1000000 in
set_option maxHeartbeats 1000000 in
theorem rnumber_any (s : ByteArray) (w : World) :
    Calls Try.prog 27 #[.string s] w fun e w' =>
      e = .returned (.tuple #[.int .u64 (numV s.data.toList), .bool (numO s.data.toList)]) ∧ w = w' := by
  have HX := Lib.hid (byte_at s)
  rcases head_cases s with ⟨h1, hN⟩ | ⟨h1, h2, hN⟩ | ⟨h1, h2, h3, ⟨h4, h5⟩, hN⟩ | ⟨h1, h2, h3, ⟨h4, h5⟩, hN⟩ | ⟨h1, h2, hN⟩
  · have E := Lib.hid (num_head hN)
    have q1 : (s.size : Int) < 1 := by rw [Lib.toList_data] at h1; rw [Lib.size_eq, h1]; decide
    clear hN
    go_enter Try.func27, Try.ntmps27
    go_wp2_with fail
    go_ret2
    exact ⟨ret_pair3 E.out.2.symm E.out.1.symm, rfl⟩
  · have E := Lib.hid (num_head hN)
    have q1 : ¬ (s.size : Int) < 1 := by omega
    have q2 : (18 : Int) < s.size := by omega
    clear hN
    go_enter Try.func27, Try.ntmps27
    go_wp2_with fail
    go_ret2
    exact ⟨ret_pair3 E.out.2.symm E.out.1.symm, rfl⟩
  · have E := Lib.hid (num_head hN)
    have q1 : ¬ (s.size : Int) < 1 := by omega
    have q2 : ¬ (18 : Int) < s.size := by omega
    have q3 : (1 : Int) < s.size := by omega
    have q4 : ((s[0].toNat : Int) == 48) = true := by simp [h5]
    clear hN
    go_enter Try.func27, Try.ntmps27
    go_wp2_with fail
    go_ret2
    exact ⟨ret_pair3 E.out.2.symm E.out.1.symm, rfl⟩
  · have hN' := Lib.hid hN
    have q1 : ¬ (s.size : Int) < 1 := by omega
    have q2 : ¬ (18 : Int) < s.size := by omega
    have q3 : (1 : Int) < s.size := by omega
    have q4 : ((s[0].toNat : Int) == 48) = false := by simp; omega
    clear hN
    go_enter Try.func27, Try.ntmps27
    go_wp2_with fail
    go_loop [4, 5] (fun n i => ∃ k : Nat, k ≤ s.size ∧ i = .int .i64 k ∧ n = .int .u64 (valN (s.data.toList.take k) 0) ∧ (s.data.toList.take k).all digB = true) (fun _ i => s.size - (intU i))
    case atStart => exact ⟨0, Nat.zero_le _, rfl, rfl, rfl⟩
    case round =>
      obtain ⟨k, hk, rfl, rfl, hA⟩ := hrel
      by_cases hp : k < s.size
      · have hx := HX.out k hp
        have n2 := valN_small hA (by omega)
        have n0 := n2.1
        have n1 := n2.2
        have kk : (k : Int) < s.size := by omega
        clear n2
        by_cases hd : digB (s[k]'hp) = true
        · have N := Lib.hid (valN_take hx)
          have A2 := Lib.hid ((all_take hx).trans (by rw [hA, hd]))
          have hd' := hd
          unfold digB at hd'
          simp only [Bool.and_eq_true, decide_eq_true_eq] at hd'
          obtain ⟨d0, d1⟩ := hd'
          clear hx hd hA
          generalize valN (List.take k s.data.toList) 0 = n at *
          have i1 : ¬ ((s[k]'hp).toNat : Int) < 48 := by omega
          have i2 : ¬ 57 < ((s[k]'hp).toNat : Int) := by omega
          have i3 : 10 * n < 18446744073709551616 := by omega
          have i4 : 10 * n + (((s[k]'hp).toNat : Int) - 48) < 18446744073709551616 := by omega
          go_wp2_with fail
          go_round
          case rel => exact ⟨k + 1, hp, by go_num, by rw [N.out], A2.out⟩
          case measure => simp [intU]; omega
        · have hd2 : digB (s[k]'hp) = false := by simpa using hd
          have E := Lib.hid (num_not (all_not hx hd2))
          have hR : (s[k]'hp).toNat < 48 ∨ 57 < (s[k]'hp).toNat := by
            unfold digB at hd2
            simp only [Bool.and_eq_false_iff, decide_eq_false_iff_not] at hd2
            omega
          clear hx hd hA hd2
          generalize valN (List.take k s.data.toList) 0 = n at *
          rcases hR with hR | hR
          · have i1 : ((s[k]'hp).toNat : Int) < 48 := by omega
            go_wp2_with fail
            go_ret2
            exact ⟨ret_pair3 E.out.2.symm E.out.1.symm, rfl⟩
          · have i1 : ¬ ((s[k]'hp).toNat : Int) < 48 := by omega
            have i2 : 57 < ((s[k]'hp).toNat : Int) := by omega
            go_wp2_with fail
            go_ret2
            exact ⟨ret_pair3 E.out.2.symm E.out.1.symm, rfl⟩
      · have e1 : k = s.data.toList.length := by rw [← Lib.size_eq]; omega
        have e2 : s.data.toList.take k = s.data.toList := by rw [e1, List.take_length]
        rw [e2] at hA ⊢
        have E := Lib.hid (num_all hN'.out hA)
        have kk : ¬ (k : Int) < s.size := by omega
        clear e1 e2 hA
        go_wp2_with fail
        go_ret2
        exact ⟨ret_pair3 E.out.2.symm E.out.1.symm, rfl⟩
  · have hN' := Lib.hid hN
    have q1 : ¬ (s.size : Int) < 1 := by omega
    have q2 : ¬ (18 : Int) < s.size := by omega
    have q3 : ¬ (1 : Int) < s.size := by omega
    clear hN
    go_enter Try.func27, Try.ntmps27
    go_wp2_with fail
    go_loop [4, 5] (fun n i => ∃ k : Nat, k ≤ s.size ∧ i = .int .i64 k ∧ n = .int .u64 (valN (s.data.toList.take k) 0) ∧ (s.data.toList.take k).all digB = true) (fun _ i => s.size - (intU i))
    case atStart => exact ⟨0, Nat.zero_le _, rfl, rfl, rfl⟩
    case round =>
      obtain ⟨k, hk, rfl, rfl, hA⟩ := hrel
      by_cases hp : k < s.size
      · have hx := HX.out k hp
        have n2 := valN_small hA (by omega)
        have n0 := n2.1
        have n1 := n2.2
        have kk : (k : Int) < s.size := by omega
        clear n2
        by_cases hd : digB (s[k]'hp) = true
        · have N := Lib.hid (valN_take hx)
          have A2 := Lib.hid ((all_take hx).trans (by rw [hA, hd]))
          have hd' := hd
          unfold digB at hd'
          simp only [Bool.and_eq_true, decide_eq_true_eq] at hd'
          obtain ⟨d0, d1⟩ := hd'
          clear hx hd hA
          generalize valN (List.take k s.data.toList) 0 = n at *
          have i1 : ¬ ((s[k]'hp).toNat : Int) < 48 := by omega
          have i2 : ¬ 57 < ((s[k]'hp).toNat : Int) := by omega
          have i3 : 10 * n < 18446744073709551616 := by omega
          have i4 : 10 * n + (((s[k]'hp).toNat : Int) - 48) < 18446744073709551616 := by omega
          go_wp2_with fail
          go_round
          case rel => exact ⟨k + 1, hp, by go_num, by rw [N.out], A2.out⟩
          case measure => simp [intU]; omega
        · have hd2 : digB (s[k]'hp) = false := by simpa using hd
          have E := Lib.hid (num_not (all_not hx hd2))
          have hR : (s[k]'hp).toNat < 48 ∨ 57 < (s[k]'hp).toNat := by
            unfold digB at hd2
            simp only [Bool.and_eq_false_iff, decide_eq_false_iff_not] at hd2
            omega
          clear hx hd hA hd2
          generalize valN (List.take k s.data.toList) 0 = n at *
          rcases hR with hR | hR
          · have i1 : ((s[k]'hp).toNat : Int) < 48 := by omega
            go_wp2_with fail
            go_ret2
            exact ⟨ret_pair3 E.out.2.symm E.out.1.symm, rfl⟩
          · have i1 : ¬ ((s[k]'hp).toNat : Int) < 48 := by omega
            have i2 : 57 < ((s[k]'hp).toNat : Int) := by omega
            go_wp2_with fail
            go_ret2
            exact ⟨ret_pair3 E.out.2.symm E.out.1.symm, rfl⟩
      · have e1 : k = s.data.toList.length := by rw [← Lib.size_eq]; omega
        have e2 : s.data.toList.take k = s.data.toList := by rw [e1, List.take_length]
        rw [e2] at hA ⊢
        have E := Lib.hid (num_all hN'.out hA)
        have kk : ¬ (k : Int) < s.size := by omega
        clear e1 e2 hA
        go_wp2_with fail
        go_ret2
        exact ⟨ret_pair3 E.out.2.symm E.out.1.symm, rfl⟩
end Go.Proofs.Ytbllnhkfnbadgaa
