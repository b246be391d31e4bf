/-
  Walks: the reference's Open.
-/
import Derived.Test.YtnjheggnnmbgaaaFrameR
import Derived.Test.YtnjheggnnmbgaaaFrameO
namespace Go.Proofs.Ytnjheggnnmbgaaa
set_option linter.unusedVariables false
set_option linter.unusedSimpArgs false
open Go.RowKit

theorem taken_is (s : ByteArray) (n u : Nat) (hs : s.size ≤ 1000000) (h : takS s.data.toList 262144 = (n, u)) (w : World) :
    Calls Try.prog 26 #[.string s, .int .u64 262144] w fun e w' => e = .returned (.tuple #[.int .u64 (n : Int), .int .i64 (u : Int)]) ∧ Below w.heap.size w w' := by
  have C := taken_any s 262144 ⟨by decide, by decide⟩ hs w
  have e : (262144 : Int).toNat = 262144 := rfl
  rw [e, h] at C
  exact C

set_option maxHeartbeats 1000000 in
theorem ropen_short (s : ByteArray) (hs : s.size < 9) (w : World) :
    Calls Try.prog 15 #[.string s] w fun e w' => e = .returned (.tuple #[.int .u8 0, .string ⟨#[]⟩, .bool false]) ∧ Below w.heap.size w w' := by
  have q0 : (s.size : Int) < 9 := by omega
  go_enter Try.func15, Try.ntmps15
  go_wp2_with fail
  exact bodyPost_ret (v := .tuple #[.int .u8 0, .string ⟨#[]⟩, .bool false]) (by simp [results, Try.results15, go_sem]) rfl ⟨rfl, Below.refl _ _⟩

set_option maxRecDepth 100000 in
set_option maxHeartbeats 1000000 in
theorem ropen_none (s t : ByteArray) (n u : Nat) (hs : 9 ≤ s.size) (hz : s.size ≤ 262200) (ht : s.extract 4 s.size = t) (hT : takS t.data.toList 262144 = (n, u)) (hn : n ≤ 262144) (hu : u ≤ 262200) (h : u = 0 ∨ ¬ s.size = 8 + u + n) (w : World) :
    Calls Try.prog 15 #[.string s] w fun e w' => e = .returned (.tuple #[.int .u8 0, .string ⟨#[]⟩, .bool false]) ∧ Below w.heap.size w w' := by
  have q0 : ¬ (s.size : Int) < 9 := by omega
  have q1 : (4 : Int) ≤ s.size := by omega
  have HT := Lib.hid hT
  have HZ : Hid (t.size ≤ 1000000) := Lib.hid (by rw [← ht, ByteArray.size_extract]; omega)
  by_cases h0 : u = 0
  · have q3 : ((u : Int) == 0) = true := by simp [h0]
    clear h0 h hT
    go_enter Try.func15, Try.ntmps15
    go_wp2_with fail
    refine (taken_is t n u HZ.out HT.out _).mono ?_
    rintro e wC ⟨rfl, hbC⟩
    go_wp2_with fail
    exact bodyPost_ret (v := .tuple #[.int .u8 0, .string ⟨#[]⟩, .bool false]) (by simp [results, Try.results15, go_sem]) rfl ⟨rfl, hbC⟩
  · have q3 : ((u : Int) == 0) = false := by simp [h0]
    have q4 : ((s.size : Int) == 8 + (u : Int) + (n : Int)) = false := by simp; omega
    have q5 : (!(s.size : Int) == 8 + (u : Int) + (n : Int)) = true := by rw [q4]; rfl
    clear h0 h hT
    go_enter Try.func15, Try.ntmps15
    go_wp2_with fail
    refine (taken_is t n u HZ.out HT.out _).mono ?_
    rintro e wC ⟨rfl, hbC⟩
    go_wp2_with fail
    exact bodyPost_ret (v := .tuple #[.int .u8 0, .string ⟨#[]⟩, .bool false]) (by simp [results, Try.results15, go_sem]) rfl ⟨rfl, hbC⟩

set_option maxRecDepth 100000 in
set_option maxHeartbeats 1000000 in
theorem ropen_some (s t L f : ByteArray) (n u : Nat) (b : UInt8) (h3 : 3 < s.size) (hb : s[3]'h3 = b) (hs : 9 ≤ s.size) (hz : s.size ≤ 262200) (ht : s.extract 4 s.size = t) (hT : takS t.data.toList 262144 = (n, u)) (hn : n ≤ 262144) (hu : u ≤ 262200) (h0 : ¬ u = 0) (h : s.size = 8 + u + n)
    (hL : s.extract (4 + u) (4 + u + n) = L) (hf : f.data.toList = frameB b L.data.toList) (ok : Bool) (hok : (f.toList == s.toList) = ok) (w : World) :
    Calls Try.prog 15 #[.string s] w fun e w' => e = .returned (.tuple #[.int .u8 (if ok = true then (b.toNat : Int) else 0), .string (if ok = true then L else ⟨#[]⟩), .bool ok]) ∧ Below w.heap.size w w' := by
  have q0 : ¬ (s.size : Int) < 9 := by omega
  have q1 : (4 : Int) ≤ s.size := by omega
  have q2 : (3 : Int) < s.size := by omega
  have HT := Lib.hid hT
  have HZ : Hid (t.size ≤ 1000000) := Lib.hid (by rw [← ht, ByteArray.size_extract]; omega)
  have q3 : ((u : Int) == 0) = false := by simp [h0]
  have q4 : ((s.size : Int) == 8 + (u : Int) + (n : Int)) = true := by simp; omega
  have q5 : (!(s.size : Int) == 8 + (u : Int) + (n : Int)) = false := by rw [q4]; rfl
  have q6 : (4 : Int) + u + n ≤ s.size := by omega
  have hLz : L.size ≤ 262144 := by rw [← hL, ByteArray.size_extract]; omega
  have kb := b.toNat_lt
  have HC := Lib.hid (fun w => rclose_any b (b.toNat : Int) rfl L f hLz hf w)
  have hne : (!f.toList == s.toList) = !ok := by rw [hok]
  clear h0 h hT hf hLz
  cases ok
  all_goals
    go_enter Try.func15, Try.ntmps15
    go_wp2_with fail
    refine (taken_is t n u HZ.out HT.out _).mono ?_
    rintro e wC ⟨rfl, hbC⟩
    go_wp2_with fail
    refine (HC.out _).mono ?_
    rintro e wD ⟨rfl, hbD⟩
    go_wp2_with fail
    first
    | exact bodyPost_ret (v := .tuple #[.int .u8 0, .string ⟨#[]⟩, .bool false]) (by simp [results, Try.results15, go_sem]) rfl ⟨rfl, hbC.trans (hbD.mono hbC.size)⟩
    | exact bodyPost_ret (v := .tuple #[.int .u8 (b.toNat : Int), .string L, .bool true]) (by simp [results, Try.results15, go_sem]) rfl ⟨rfl, hbC.trans (hbD.mono hbC.size)⟩

/-- What the reference's Open answers: a frame, or none. -/
def ROpens (w : World) (s : ByteArray) (e : Ending) (w' : World) : Prop :=
  Below w.heap.size w w' ∧
  ((∃ (b : UInt8) (l : ByteArray), l.size ≤ 262144 ∧ s.data.toList = frameB b l.data.toList ∧ e = .returned (.tuple #[.int .u8 (b.toNat : Int), .string l, .bool true])) ∨
   ((∀ (b : UInt8) (l : List UInt8), l.length ≤ 262144 → s.data.toList ≠ frameB b l) ∧ e = .returned (.tuple #[.int .u8 0, .string ⟨#[]⟩, .bool false])))
theorem takS_used (l : List UInt8) (m : Nat) : (takS l m).2 ≤ l.length := by
  unfold takS
  have := firstS_le l
  split
  · exact Nat.zero_le _
  · exact this
theorem ext_range (s : ByteArray) (a b : Nat) : (s.extract a b).data.toList = (s.data.toList.drop a).take (b - a) := by
  rw [← Lib.toList_data, Lib.extract_toList]
theorem ropen_any (s : ByteArray) (hz : s.size ≤ 262200) (w : World) :
    Calls Try.prog 15 #[.string s] w (ROpens w s) := by
  by_cases h9 : s.size < 9
  · refine (ropen_short s h9 w).mono fun e w' ⟨he, hw⟩ => ⟨hw, Or.inr ⟨fun b l hl h => ?_, he⟩⟩
    have := frame_len b l
    have h1 := natB_pos l.length
    rw [← h, ← Lib.size_eq] at this; omega
  · obtain ⟨n, u, hT⟩ : ∃ n u, takS (s.extract 4 s.size).data.toList 262144 = (n, u) := ⟨_, _, rfl⟩
    have hn : n ≤ 262144 := by have := takS_most (s.extract 4 s.size).data.toList 262144; rw [hT] at this; exact this
    have hu : u ≤ 262200 := by
      have := takS_used (s.extract 4 s.size).data.toList 262144
      rw [hT, ext_list, List.length_drop, ← Lib.size_eq] at this
      omega
    have hT' : takS (s.data.toList.drop 4) 262144 = (n, u) := by rw [← ext_list]; exact hT
    have hS : s.data.toList.length = s.size := (Lib.size_eq s).symm
    by_cases hno : u = 0 ∨ ¬ s.size = 8 + u + n
    · refine (ropen_none s _ n u (by omega) hz rfl hT hn hu hno w).mono fun e w' ⟨he, hw⟩ => ⟨hw, Or.inr ⟨?_, he⟩⟩
      refine open_none.1 ?_
      unfold openS
      rw [hT', hS]
      rw [if_pos]
      right; simpa using hno
    · have h3 : 3 < s.size := by omega
      have hb3 : s.data.toList.getD 3 0 = s[3]'h3 := by
        obtain ⟨⟨l⟩⟩ := s
        have h3' : 3 < l.length := h3
        simp only [List.getD, List.getElem?_eq_getElem h3', Option.getD_some]
        rfl
      have hf : (⟨(frameB (s[3]'h3) (s.extract (4 + u) (4 + u + n)).data.toList).toArray⟩ : ByteArray).data.toList = frameB (s[3]'h3) (s.extract (4 + u) (4 + u + n)).data.toList := rfl
      have hLz : (s.extract (4 + u) (4 + u + n)).size ≤ 262144 := by rw [ByteArray.size_extract]; omega
      have hx : (s.extract (4 + u) (4 + u + n)).data.toList = (s.data.toList.drop (4 + u)).take n := by rw [ext_range, Nat.add_sub_cancel_left]
      by_cases he : frameB (s[3]'h3) (s.extract (4 + u) (4 + u + n)).data.toList = s.data.toList
      · refine (ropen_some s _ _ _ n u _ h3 rfl (by omega) hz rfl hT hn hu (by omega) (by omega) rfl hf true (by rw [Lib.toList_data, Lib.toList_data, hf, beq_iff_eq]; exact he) w).mono fun e w' ⟨hh, hw⟩ => ⟨hw, Or.inl ⟨_, _, hLz, he.symm, hh⟩⟩
      · refine (ropen_some s _ _ _ n u _ h3 rfl (by omega) hz rfl hT hn hu (by omega) (by omega) rfl hf false (by rw [Lib.toList_data, Lib.toList_data, hf, beq_eq_false_iff_ne]; exact he) w).mono fun e w' ⟨hh, hw⟩ => ⟨hw, Or.inr ⟨?_, hh⟩⟩
        refine open_none.1 ?_
        unfold openS
        rw [hT', hS, hb3]
        simp only
        rw [← hx, if_neg (by omega), if_neg he]
theorem ropen_yes (s : ByteArray) (hs : s.size ≤ 262200) (b : UInt8) (l : ByteArray) (hl : l.size ≤ 262144) (h : s.data.toList = frameB b l.data.toList) (w : World) :
    Calls Try.prog 15 #[.string s] w fun e w' => e = .returned (.tuple #[.int .u8 (b.toNat : Int), .string l, .bool true]) ∧ Below w.heap.size w w' := by
  refine (ropen_any s hs w).mono fun e w' ⟨hw, hh⟩ => ⟨?_, hw⟩
  rcases hh with ⟨b', l', hl', h', he⟩ | ⟨hno, _⟩
  · obtain ⟨e1, e2⟩ := frame_inj (by rw [← Lib.size_eq]; omega) (by rw [← Lib.size_eq]; omega) (h'.symm.trans h)
    rw [he, e1, bytes_same e2]
  · exact absurd h (hno b _ (by rw [← Lib.size_eq]; exact hl))
theorem ropen_no (s : ByteArray) (hs : s.size ≤ 262200) (h : ∀ (b : UInt8) (l : List UInt8), l.length ≤ 262144 → s.data.toList ≠ frameB b l) (w : World) :
    Calls Try.prog 15 #[.string s] w fun e w' => e = .returned (.tuple #[.int .u8 0, .string ⟨#[]⟩, .bool false]) ∧ Below w.heap.size w w' := by
  refine (ropen_any s hs w).mono fun e w' ⟨hw, hh⟩ => ⟨?_, hw⟩
  rcases hh with ⟨b', l', hl', h', _⟩ | ⟨_, he⟩
  · exact absurd h' (h b' _ (by rw [← Lib.size_eq]; exact hl'))
  · exact he
end Go.Proofs.Ytnjheggnnmbgaaa
