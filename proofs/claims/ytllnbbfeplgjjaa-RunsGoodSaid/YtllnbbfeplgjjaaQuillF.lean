/-
  Walks: the number at the beginning of a text.
-/
import Derived.Test.YtllnbbfeplgjjaaQuillA
namespace Go.Proofs.Ytllnbbfeplgjjaa
set_option linter.unusedVariables false
set_option linter.unusedSimpArgs false
open Go.RowKit

theorem byte_atA (s : ByteArray) (k : Nat) (h : k < s.size) : s.data.toList[k]? = some (s[k]'h) := by
  obtain ⟨⟨l⟩⟩ := s
  exact List.getElem?_eq_getElem h

set_option maxRecDepth 1000000 in
set_option maxHeartbeats 4000000 in
theorem first_any (s : ByteArray) (w : World) (hs : s.size ≤ 1000000) :
    Calls Try.prog 61 #[.string s] w fun e w' =>
      e = .returned (.tuple #[.int .u64 ((firstS s.data.toList).1 : Int), .int .i64 ((firstS s.data.toList).2 : Int)]) ∧ w = w' := by
  have HX := Lib.hid (byte_atA s)
  have HSZ := Lib.hid hs
  clear hs
  go_enter Try.func61, Try.ntmps61
  go_wp2_with fail
  go_loop [4, 10] (fun n i => ∃ (k : Nat) (m : Int), k ≤ s.size ∧ i = .int .i64 k ∧ n = .int .u64 m ∧ Word m ∧ (k ≤ 9 → m = (valL (s.data.toList.take k) : Nat)) ∧ (s.data.toList.take k).all hiB = true) (fun _ i => s.size - (intOf i).toNat)
  case atStart => exact ⟨0, 0, Nat.zero_le _, rfl, rfl, ⟨by decide, by decide⟩, fun _ => rfl, rfl⟩
  case round =>
    obtain ⟨k, m, hk, rfl, rfl, hm, hv, hA⟩ := hrel
    have HV := Lib.hid hv
    clear hv
    obtain ⟨m0, m1⟩ := hm
    by_cases hp : k < s.size
    · have kk : (k : Int) < s.size := by omega
      have w1 : IntKind.i64.wrap (7 * (k : Int)) = 7 * (k : Int) := by have := HSZ.out; rw [IntKind.wrap_i64]; omega
      have w2 : IntKind.i64.wrap ((k : Int) + 1) = (k : Int) + 1 := by have := HSZ.out; rw [IntKind.wrap_i64]; omega
      have b1 := (s[k]'hp).toNat_lt
      have b0 : ((s[k]'hp).toNat : Int) < 256 := by omega
      clear b1
      obtain ⟨P, Q, R, wP, wR, e1, e2, e3, hc⟩ := round_cases (HX.out k hp) hA HV.out
      have h1 := shl_run k (((s[k]'hp).toNat : Int) % 128)
      have h2 := shr_run k P
      rw [e1] at h1
      rw [e2] at h2
      clear e1 e2
      rcases hc with ⟨hq, hf⟩ | ⟨rfl, hb, hv', hA'⟩ | ⟨rfl, hb, hz, hk0, hf⟩ | ⟨rfl, hb, hz, hf1, hf2⟩
      · have E := Lib.hid hf
        have q1 : (Q == ((s[k]'hp).toNat : Int) % 128) = false := by simpa using hq
        have q2 : (!Q == ((s[k]'hp).toNat : Int) % 128) = true := by rw [q1]; rfl
        clear hf hq hA e3
        go_wp2_with fail
        go_ret2
        exact ⟨by rw [E.out]; rfl, rfl⟩
      · have E := Lib.hid hv'
        have q1 : ¬ ((s[k]'hp).toNat : Int) < 128 := by omega
        have HA' := Lib.hid hA'
        clear hv' hA hA'
        go_wp2_with fail
        go_round
        case rel => exact ⟨k + 1, R, by omega, by go_num, rfl, wR, E.out, HA'.out⟩
        case measure => simp [intOf]; omega
      · have E := Lib.hid hf
        have q1 : (((s[k]'hp).toNat : Int) % 128 == 0) = true := by simpa using hz
        have q2 : (0 : Int) < k := by omega
        have q3 : (0 : Nat) < k := hk0
        clear hf hA hz
        go_wp2_with fail
        go_ret2
        exact ⟨by rw [E.out]; rfl, rfl⟩
      · have E1 := Lib.hid hf1
        have E2 := Lib.hid hf2
        clear hf1 hf2 hA
        by_cases hz' : ((s[k]'hp).toNat : Int) % 128 = 0
        · have q1 : (((s[k]'hp).toNat : Int) % 128 == 0) = true := by simpa using hz'
          have HQ : Hid (¬ (0 : Int) < k) := Lib.hid (by rcases hz with hz | hz <;> omega)
          clear hz hz'
          go_wp2_with fail
          all_goals first | (exfalso; have := HQ.out; omega) | (go_ret2; exact ⟨by rw [E1.out, E2.out]; rfl, rfl⟩)
        · have q1 : (((s[k]'hp).toNat : Int) % 128 == 0) = false := by simpa using hz'
          clear hz hz'
          go_wp2_with fail
          go_ret2
          exact ⟨by rw [E1.out, E2.out]; rfl, rfl⟩
    · have e1 : k = s.data.toList.length := by rw [← Lib.size_eq]; omega
      have e2 : s.data.toList.take k = s.data.toList := by rw [e1, List.take_length]
      rw [e2] at hA
      have E := Lib.hid (firstS_end hA)
      have kk : ¬ (k : Int) < s.size := by omega
      clear e1 e2 hA
      go_wp2_with fail
      go_ret2
      exact ⟨by rw [E.out]; rfl, rfl⟩
end Go.Proofs.Ytllnbbfeplgjjaa
