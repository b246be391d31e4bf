/-
  Walks: a sum: the code's.
-/
import Derived.Test.YtnjheggnnmbgaaaRows
import Derived.Test.YtnjheggnnmbgaaaFrameM
import Derived.Test.YtnjheggnnmbgaaaSignA
import Derived.Test.YtnjheggnnmbgaaaTwo
import Derived.Laws.BitsLemmas
import Derived.Laws.Unary
import Derived.WalkKit
import Derived.WalkSpells
import Derived.WalkLawsBesides
import Derived.WalkMore
import Derived.LoopTactic
import Derived.Lib.Strings
import Derived.Laws.BytesArg
import Derived.Outline
namespace Go.Proofs.Ytnjheggnnmbgaaa
set_option linter.unusedVariables false
set_option linter.unusedSimpArgs false
open Go.RowKit

theorem wraps_u32 (n : Int) (h₀ : 0 ≤ n) (h₁ : n < 2 ^ 32) : IntKind.u32.wrap n = n := by rw [IntKind.wrap_u32]; omega
theorem and_u32 (a b : Nat) (ha : a < 4294967296) (hb : b < 4294967296) : bits .and .u32 (a : Int) (b : Int) = ((a &&& b : Nat) : Int) :=
  (bits_nat .u32 32 (by decide) wraps_u32 a b ha hb).1
theorem xor_u32 (a b : Nat) (ha : a < 4294967296) (hb : b < 4294967296) : bits .xor .u32 (a : Int) (b : Int) = ((a ^^^ b : Nat) : Int) := by
  have ha' : a % 2 ^ IntKind.u32.bits = a := Nat.mod_eq_of_lt ha
  have hb' : b % 2 ^ IntKind.u32.bits = b := Nat.mod_eq_of_lt hb
  simp only [bits, BitVec.ofInt_natCast, BitVec.toNat_xor, BitVec.toNat_ofNat, ha', hb']
  exact wraps_u32 _ (Int.natCast_nonneg _) (by have := Nat.xor_lt_two_pow (n := 32) ha hb; omega)
theorem and_one32 (a : Nat) (ha : a < 4294967296) : bits .and .u32 (a : Int) 1 = ((a % 2 : Nat) : Int) := by
  have := and_u32 a 1 ha (by decide)
  rw [Nat.and_one_is_mod] at this
  exact this
/-- What one round of shift makes of a sum. -/
theorem shift_step (a : Nat) (ha : a < 4294967296) (x y : Int) (hx : x = ((a / 2 : Nat) : Int)) (hy : y = if a % 2 = 1 then 3988292384 else 0) : bits .xor .u32 x y = (stp a : Nat) := by
  subst hx hy
  unfold stp
  by_cases h : a % 2 = 1
  · rw [if_pos h, if_pos h]; exact xor_u32 _ 3988292384 (by omega) (by decide)
  · rw [if_neg h, if_neg h]; exact xor_u32 _ 0 (by omega) (by decide)
theorem stps_succ : ∀ (k c : Nat), stps (k + 1) c = stp (stps k c) := by
  intro k c
  have := stps_add k 1 c
  exact this

set_option maxHeartbeats 400000 in
theorem shift_any (c : Nat) (hc : c < 4294967296) (w : World) :
    Calls Try.prog 24 #[.int .u32 c] w fun e w' => e = .returned (.int .u32 (stps 8 c : Nat)) ∧ w = w' := by
  go_enter Try.func24, Try.ntmps24
  go_wp2_with fail
  go_loop [0, 3] (fun n i => ∃ k m : Nat, k ≤ 8 ∧ i = .int .i64 k ∧ n = .int .u32 m ∧ m < 4294967296 ∧ m = stps k c) (fun _ i => 8 - (intOf i).toNat)
  case atStart => exact ⟨0, c, by decide, rfl, rfl, hc, rfl⟩
  case round =>
    obtain ⟨k, m, hk, rfl, rfl, hm, hv⟩ := hrel
    have HV := Lib.hid hv
    clear hv
    by_cases h8 : k = 8
    · subst h8
      go_wp2_with fail
      go_ret
      exact ⟨ret_int (by rw [HV.out]), rfl⟩
    · have hlt : (k : Int) < 8 := by omega
      have h1 := and_one32 m hm
      have h3 : stp m < 4294967296 := stp_lt hm
      have h4 : bits .and .u32 3988292384 4294967295 = 3988292384 := by decide
      have h5 : bits .and .u32 3988292384 0 = 0 := by decide
      have HM := Lib.hid (stps_succ k c)
      by_cases hp : m % 2 = 1
      all_goals
        first
        | (have h2 := shift_step m hm ((m : Int) / 2) 3988292384 (by omega) (by rw [if_pos hp]))
        | (have h2 := shift_step m hm ((m : Int) / 2) 0 (by omega) (by rw [if_neg hp]); replace hp : m % 2 = 0 := by omega)
        rw [hp] at h1
        clear hp h8
        go_wp2_with fail
        go_round
        case rel => exact ⟨k + 1, stp m, by omega, by go_num, rfl, h3, by rw [HM.out, HV.out]⟩
        case measure => simp [intOf]; omega
theorem raw_snoc (c : Nat) (l : List UInt8) (b : UInt8) : raw c (l ++ [b]) = stps 8 (raw c l ^^^ b.toNat) := by rw [raw_app]; rfl
theorem take_snoc' (s : ByteArray) (k : Nat) (h : k < s.size) : s.data.toList.take (k + 1) = s.data.toList.take k ++ [s[k]] := by
  rw [List.take_succ_eq_append_getElem (by simpa using h)]; rfl

theorem shift_is (c r : Nat) (hc : c < 4294967296) (hr : stps 8 c = r) (w : World) :
    Calls Try.prog 24 #[.int .u32 c] w fun e w' => e = .returned (.int .u32 r) ∧ w = w' := by
  subst hr; exact shift_any c hc w

set_option maxHeartbeats 400000 in
theorem sum_any (s : ByteArray) (hs : s.size ≤ 1000000) (r : Nat) (hr : sumN s.data.toList = r) (w : World) :
    Calls Try.prog 12 #[.string s] w fun e w' => e = .returned (.int .u32 r) ∧ w = w' := by
  have HR := Lib.hid hr
  have HSZ := Lib.hid hs
  clear hr hs
  go_enter Try.func12, Try.ntmps12
  go_wp2_with fail
  go_loop [3, 7] (fun n i => ∃ k m : Nat, k ≤ s.size ∧ i = .int .i64 k ∧ n = .int .u32 m ∧ m < 4294967296 ∧ m = raw 4294967295 (s.data.toList.take k)) (fun _ i => s.size - (intOf i).toNat)
  case atStart => exact ⟨0, 4294967295, Nat.zero_le _, rfl, rfl, by decide, rfl⟩
  case round =>
    obtain ⟨k, m, hk, rfl, rfl, hm, hv⟩ := hrel
    have HV := Lib.hid hv
    clear hv
    by_cases hp : k < s.size
    · have kk : (k : Int) < s.size := by omega
      have w2 : IntKind.i64.wrap ((k : Int) + 1) = (k : Int) + 1 := by have := HSZ.out; rw [IntKind.wrap_i64]; omega
      have h1 := xor_u32 m (s[k]'hp).toNat hm (byte_lt _)
      have h3 : m ^^^ (s[k]'hp).toNat < 4294967296 := Nat.xor_lt_two_pow (n := 32) hm (byte_lt _)
      have hb := (s[k]'hp).toNat_lt
      have h5 := stps_lt 8 h3
      obtain ⟨t, ht⟩ : ∃ t, stps 8 (m ^^^ (s[k]'hp).toNat) = t := ⟨_, rfl⟩
      have HS : Hid (raw 4294967295 (s.data.toList.take (k + 1)) = t) := Lib.hid (by rw [take_snoc' s k hp, raw_snoc, ← HV.out, ht])
      rw [ht] at h5
      generalize hx : m ^^^ (s[k]'hp).toNat = x at *
      have HT := Lib.hid ht
      clear ht hx
      go_wp2_with fail
      refine (shift_is x t h3 HT.out _).mono ?_
      rintro e w' ⟨rfl, rfl⟩
      go_wp2_with fail
      go_round
      case rel => exact ⟨k + 1, t, by omega, by go_num, rfl, h5, HS.out.symm⟩
      case measure => simp [intOf]; omega
    · have e2 : s.data.toList.take k = s.data.toList := by rw [show k = s.data.toList.length from by rw [← Lib.size_eq]; omega, List.take_length]
      rw [e2] at HV
      have kk : ¬ (k : Int) < s.size := by omega
      have HE : Hid (m ^^^ 4294967295 = r) := Lib.hid (by have := HR.out; unfold sumN at this; rw [HV.out]; exact this)
      have h1 : bits .xor .u32 IntKind.u32.max (m : Int) = (r : Int) := by rw [← HE.out, Nat.xor_comm]; exact xor_u32 4294967295 m (by decide) hm
      clear e2
      go_wp2_with fail
      go_ret
      exact ⟨rfl, rfl⟩

/-- A row of bytes that was just laid, as a string. -/
theorem bytes_text (w : World) (l : List UInt8) (n : Nat) (xs : Array Value) (hn : l.length = n) (hx : xs = (l.map fun b => Value.int .u8 (b.toNat : Int)).toArray) :
    (convert 35 9 (.slice (some ⟨w.heap.size, 0, none⟩) n n)).run Try.prog (w.alloc (.cells xs 5)) = .ok (.string ⟨l.toArray⟩) (w.alloc (.cells xs 5)) := by
  subst hn hx
  have h := run_convert_bytes_arg (P := Try.prog) (w.alloc (.cells (l.map fun b => Value.int .u8 (b.toNat : Int)).toArray 5)) _ _ Try.underlying35 Try.underlying5 w.heap.size 0 l.length l.length (l.map fun b => (b.toNat : Int)) (by simp) (by
    intro i hi
    simp [List.getD, List.getElem?_map, List.getElem?_eq_getElem hi]) _ Try.underlying9
  rw [h]
  have e : strOfNums (l.map fun b => (b.toNat : Int)) = ⟨l.toArray⟩ := by
    unfold strOfNums
    rw [List.map_map]
    have : (List.map ((fun n => UInt8.ofNat n.toNat) ∘ fun b : UInt8 => (b.toNat : Int)) l) = l := by
      conv => rhs; rw [← List.map_id l]
      exact List.map_congr_left fun b _ => by simp
    rw [this]
  rw [e]

set_option maxHeartbeats 400000 in
theorem low_any (n : Nat) (hn : n < 4294967296) (w : World) :
    Calls Try.prog 18 #[.int .u32 n] w fun e w' => e = .returned (.string ⟨(le4 n).toArray⟩) ∧ Below w.heap.size w w' := by
  have hcv := bytes_text w (le4 n) 4 #[.int .u8 (n % 256), .int .u8 (n / 256 % 256), .int .u8 (n / 65536 % 256), .int .u8 (n / 16777216)] rfl (by
    unfold le4
    simp only [List.map_cons, List.map_nil]
    rw [ofNat_toNat (by omega), ofNat_toNat (by omega), ofNat_toNat (by omega), ofNat_toNat (by omega)]
    rfl)
  generalize hl : le4 n = l at *
  have HL := Lib.hid hl
  clear hl
  go_enter Try.func18, Try.ntmps18
  go_wp2_with fail
  go_ret
  exact ⟨rfl, (Below.refl _ _).alloc (Nat.le_refl _) _⟩
end Go.Proofs.Ytnjheggnnmbgaaa
