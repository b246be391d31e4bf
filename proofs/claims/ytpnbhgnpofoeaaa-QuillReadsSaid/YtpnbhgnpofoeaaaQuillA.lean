/-
  Walks: an eye: On, Bad, Left, Over, Shut, and the number at the beginning.
-/
import Derived.Test.YtpnbhgnpofoeaaaRows
import Derived.Test.YtpnbhgnpofoeaaaQuillM
import Derived.Test.YtpnbhgnpofoeaaaSignA
import Derived.Test.YtpnbhgnpofoeaaaTwo
import Derived.WalkKit
import Derived.WalkSpells
import Derived.WalkLawsBesides
import Derived.WalkMore
import Derived.LoopTactic
import Derived.Lib.Strings
import Derived.Outline
namespace Go.Proofs.Ytpnbhgnpofoeaaa
set_option linter.unusedVariables false
set_option linter.unusedSimpArgs false
open Go.RowKit

/-- An eye at block B: what is left, and whether it is bad (then nothing is left). -/
structure Eye (w : World) (B : Nat) (s : ByteArray) (bad : Bool) : Prop where
  two : Two w B (.string s) (.bool bad)
  non : bad = true → s = ⟨#[]⟩
theorem Eye.call {w w' : World} {B : Nat} {s : ByteArray} {bad : Bool} (h : Eye w B s bad) (hb : Below w.heap.size w w') : Eye w' B s bad := ⟨h.two.call hb, h.non⟩
theorem two_only {w w' : World} {B B' : Nat} {x y : Value} (h : Two w B x y) (hg : w.grownBy w' (some B')) (hne : B ≠ B') : Two w' B x y := by
  have hlt := h.lt
  have hb := hg.block B hlt (fun e => hne (Option.some.inj e))
  exact ⟨(World.cell?_of_block (a := ⟨B, 0, none⟩) hb).trans h.c0, (World.cell?_of_block (a := ⟨B, 1, none⟩) hb).trans h.c1, (World.frozen?_of_block (a := ⟨B, 0, none⟩) hb).trans h.f0, (World.frozen?_of_block (a := ⟨B, 1, none⟩) hb).trans h.f1⟩
theorem grown_refl (w : World) (r : Option Nat) : w.grownBy w r := ⟨rfl, rfl, rfl, Nat.le_refl _, fun _ _ _ => rfl⟩
theorem grown_trans {a b c : World} {r : Option Nat} (h : a.grownBy b r) (k : b.grownBy c r) : a.grownBy c r :=
  ⟨k.os.trans h.os, k.tape.trans h.tape, k.output.trans h.output, Nat.le_trans h.size k.size, fun i hi hr => (k.block i (Nat.lt_of_lt_of_le hi h.size) hr).trans (h.block i hi hr)⟩
theorem grown_setCell (w : World) (B o : Nat) (v : Value) : w.grownBy (w.setCell ⟨B, o, none⟩ v) (some B) :=
  ⟨rfl, rfl, rfl, by simp [World.setCell], fun k hk hr => Below.heap_setCell _ _ _ _ (fun e => hr (by rw [e]))⟩
theorem grown_below {a b : World} {B n : Nat} (h : a.grownBy b (some B)) (hn : n ≤ B) (hs : n ≤ a.heap.size) : Below n a b :=
  ⟨h.os, h.tape, h.output, h.size, fun k hk => h.block k (by omega) (fun e => by have := Option.some.inj e; omega)⟩
theorem Two.low {w : World} {B : Nat} {x y : Value} (h : Two w B x y) (v : Value) : Two (w.setCell ⟨B, 0, none⟩ v) B v y := by
  refine ⟨?_, ?_, ?_, ?_⟩
  · exact World.cell?_setCell_same _ _ _ h.c0
  · rw [World.cell?_setCell_other _ _ _ _ (two_off (by omega))]; exact h.c1
  · rw [World.frozen?_setCell]; exact h.f0
  · rw [World.frozen?_setCell]; exact h.f1

set_option maxHeartbeats 400000 in
theorem on_any (s : ByteArray) (w : World) :
    Calls Try.prog 11 #[.string s] w fun e w' =>
      e = .returned (.pointer (some ⟨w.heap.size, 0, none⟩)) ∧ Eye w' w.heap.size s false ∧ Below w.heap.size w w' ∧ w'.heap.size = w.heap.size + 1 := by
  go_enter Try.func11, Try.ntmps11
  go_wp2_with fail
  go_ret
  exact ⟨rfl, ⟨Two.new _ _ _ _, fun h => by cases h⟩, (Below.refl _ _).alloc (Nat.le_refl _) _, by simp⟩

set_option maxHeartbeats 400000 in
theorem bad_any (w : World) (B : Nat) (s : ByteArray) (bad : Bool) (h : Eye w B s bad) :
    Calls Try.prog 16 #[.pointer (some ⟨B, 0, none⟩)] w fun e w' =>
      e = .returned (.bool bad) ∧ w = w' := by
  obtain ⟨⟨c0, c1, f0, f1⟩, hn⟩ := h
  clear hn
  go_enter Try.func16, Try.ntmps16
  go_wp2_with fail
  go_ret
  exact ⟨rfl, rfl⟩

set_option maxHeartbeats 400000 in
theorem bad_none (w : World) :
    Calls Try.prog 16 #[.pointer none] w fun e w' =>
      e = .returned (.bool true) ∧ w = w' := by
  go_enter Try.func16, Try.ntmps16
  go_wp2_with fail
  go_ret
  exact ⟨rfl, rfl⟩

set_option maxHeartbeats 400000 in
theorem left_any (w : World) (B : Nat) (s : ByteArray) (bad : Bool) (h : Eye w B s bad) :
    Calls Try.prog 17 #[.pointer (some ⟨B, 0, none⟩)] w fun e w' =>
      e = .returned (.int .i64 (s.size : Int)) ∧ w = w' := by
  obtain ⟨⟨c0, c1, f0, f1⟩, hn⟩ := h
  clear hn
  go_enter Try.func17, Try.ntmps17
  go_wp2_with fail
  go_ret
  exact ⟨rfl, rfl⟩

set_option maxHeartbeats 400000 in
theorem left_none (w : World) :
    Calls Try.prog 17 #[.pointer none] w fun e w' =>
      e = .returned (.int .i64 0) ∧ w = w' := by
  go_enter Try.func17, Try.ntmps17
  go_wp2_with fail
  go_ret
  exact ⟨rfl, rfl⟩

set_option maxHeartbeats 400000 in
theorem over_any (w : World) (B : Nat) (s : ByteArray) (bad : Bool) (h : Eye w B s bad) :
    Calls Try.prog 15 #[.pointer (some ⟨B, 0, none⟩)] w fun e w' =>
      e = .returned (.bool (!bad && s.toList.isEmpty)) ∧ w = w' := by
  have HE := Lib.hid h
  obtain ⟨⟨c0, c1, f0, f1⟩, hn⟩ := h
  clear hn
  cases bad
  · go_enter Try.func15, Try.ntmps15
    go_wp2_with (go_at_call 16; refine (bad_any _ _ _ _ HE.out).mono ?_; rintro e w' ⟨rfl, rfl⟩)
    go_ret
    exact ⟨rfl, rfl⟩
  · go_enter Try.func15, Try.ntmps15
    go_wp2_with (go_at_call 16; refine (bad_any _ _ _ _ HE.out).mono ?_; rintro e w' ⟨rfl, rfl⟩)
    go_ret
    exact ⟨rfl, rfl⟩

set_option maxHeartbeats 400000 in
theorem over_none (w : World) :
    Calls Try.prog 15 #[.pointer none] w fun e w' =>
      e = .returned (.bool false) ∧ w = w' := by
  go_enter Try.func15, Try.ntmps15
  go_wp2_with (go_at_call 16; refine (bad_none _).mono ?_; rintro e w' ⟨rfl, rfl⟩)
  go_ret
  exact ⟨rfl, rfl⟩

set_option maxHeartbeats 400000 in
theorem shut_any (w : World) (B : Nat) (s : ByteArray) (bad : Bool) (h : Eye w B s bad) :
    Calls Try.prog 23 #[.pointer (some ⟨B, 0, none⟩)] w fun e w' =>
      e = .returned (.tuple #[]) ∧ Eye w' B ⟨#[]⟩ true ∧ w.grownBy w' (some B) := by
  have HE := Lib.hid h
  obtain ⟨⟨c0, c1, f0, f1⟩, hn⟩ := h
  clear hn
  go_enter Try.func23, Try.ntmps23
  go_wp2_with fail
  go_end0
  exact ⟨rfl, ⟨HE.out.two.put _ _, fun _ => rfl⟩, grown_trans (grown_setCell _ _ _ _) (grown_setCell _ _ _ _)⟩

set_option maxHeartbeats 400000 in
theorem shut_none (w : World) :
    Calls Try.prog 23 #[.pointer none] w fun e w' =>
      e = .returned (.tuple #[]) ∧ w = w' := by
  go_enter Try.func23, Try.ntmps23
  go_wp2_with fail
  refine bodyPost_ret (results_none rfl _ _ _) rfl ?_
  exact ⟨rfl, rfl⟩

theorem byte_at (s : ByteArray) (k : Nat) (h : k < s.size) : s.data.toList[k]? = some (s[k]'h) := by
  obtain ⟨⟨l⟩⟩ := s
  exact List.getElem?_eq_getElem h

set_option maxRecDepth 1000000 in
set_option maxHeartbeats 4000000 in
theorem first_any (s : ByteArray) (w : World) (hs : s.size ≤ 65536) :
    Calls Try.prog 28 #[.string s] w fun e w' =>
      e = .returned (.tuple #[.int .u64 ((firstS s.data.toList).1 : Int), .int .i64 ((firstS s.data.toList).2 : Int)]) ∧ w = w' := by
  have HX := Lib.hid (byte_at s)
  go_enter Try.func28, Try.ntmps28
  go_wp2_with fail
  go_loop [4, 10] (fun n i => ∃ (k : Nat) (m : Int), k ≤ s.size ∧ i = .int .i64 k ∧ n = .int .u64 m ∧ Word m ∧ (k ≤ 9 → m = (valL (s.data.toList.take k) : Nat)) ∧ (s.data.toList.take k).all hiB = true) (fun _ i => s.size - (intOf i).toNat)
  case atStart => exact ⟨0, 0, Nat.zero_le _, rfl, rfl, ⟨by decide, by decide⟩, fun _ => rfl, rfl⟩
  case round =>
    obtain ⟨k, m, hk, rfl, rfl, hm, hv, hA⟩ := hrel
    have HV := Lib.hid hv
    clear hv
    obtain ⟨m0, m1⟩ := hm
    by_cases hp : k < s.size
    · have kk : (k : Int) < s.size := by omega
      have k0 : (k : Int) < 65536 := by omega
      have b1 := (s[k]'hp).toNat_lt
      have b0 : ((s[k]'hp).toNat : Int) < 256 := by omega
      clear b1
      obtain ⟨P, Q, R, wP, wR, e1, e2, e3, hc⟩ := round_cases (HX.out k hp) hA HV.out
      have h1 := shl_run k (((s[k]'hp).toNat : Int) % 128)
      have h2 := shr_run k P
      rw [e1] at h1
      rw [e2] at h2
      clear e1 e2
      rcases hc with ⟨hq, hf⟩ | ⟨rfl, hb, hv', hA'⟩ | ⟨rfl, hb, hz, hk0, hf⟩ | ⟨rfl, hb, hz, hf1, hf2⟩
      · have E := Lib.hid hf
        have q1 : (Q == ((s[k]'hp).toNat : Int) % 128) = false := by simpa using hq
        have q2 : (!Q == ((s[k]'hp).toNat : Int) % 128) = true := by rw [q1]; rfl
        clear hf hq hA e3
        go_wp2_with fail
        go_ret2
        exact ⟨by rw [E.out]; rfl, rfl⟩
      · have E := Lib.hid hv'
        have q1 : ¬ ((s[k]'hp).toNat : Int) < 128 := by omega
        have HA' := Lib.hid hA'
        clear hv' hA hA'
        go_wp2_with fail
        go_round
        case rel => exact ⟨k + 1, R, by omega, by go_num, rfl, wR, E.out, HA'.out⟩
        case measure => simp [intOf]; omega
      · have E := Lib.hid hf
        have q1 : (((s[k]'hp).toNat : Int) % 128 == 0) = true := by simpa using hz
        have q2 : (0 : Int) < k := by omega
        have q3 : (0 : Nat) < k := hk0
        clear hf hA hz
        go_wp2_with fail
        go_ret2
        exact ⟨by rw [E.out]; rfl, rfl⟩
      · have E1 := Lib.hid hf1
        have E2 := Lib.hid hf2
        clear hf1 hf2 hA
        by_cases hz' : ((s[k]'hp).toNat : Int) % 128 = 0
        · have q1 : (((s[k]'hp).toNat : Int) % 128 == 0) = true := by simpa using hz'
          have HQ : Hid (¬ (0 : Int) < k) := Lib.hid (by rcases hz with hz | hz <;> omega)
          clear hz hz'
          go_wp2_with fail
          all_goals first | (exfalso; have := HQ.out; omega) | (go_ret2; exact ⟨by rw [E1.out, E2.out]; rfl, rfl⟩)
        · have q1 : (((s[k]'hp).toNat : Int) % 128 == 0) = false := by simpa using hz'
          clear hz hz'
          go_wp2_with fail
          go_ret2
          exact ⟨by rw [E1.out, E2.out]; rfl, rfl⟩
    · have e1 : k = s.data.toList.length := by rw [← Lib.size_eq]; omega
      have e2 : s.data.toList.take k = s.data.toList := by rw [e1, List.take_length]
      rw [e2] at hA
      have E := Lib.hid (firstS_end hA)
      have kk : ¬ (k : Int) < s.size := by omega
      clear e1 e2 hA
      go_wp2_with fail
      go_ret2
      exact ⟨by rw [E.out]; rfl, rfl⟩
end Go.Proofs.Ytpnbhgnpofoeaaa
