/-
  Walks: the reference's sum and what it frames.
-/
import Derived.Test.YtnjheggnnmbgaaaFrameB
import Derived.Deep.RegionWith
import Derived.Deep.CutRange
import Derived.Deep.DeepCutAuto
namespace Go.Proofs.Ytnjheggnnmbgaaa
set_option linter.unusedVariables false
set_option linter.unusedSimpArgs false
open Go.RowKit

theorem not_u32 (m : Nat) (hm : m < 4294967296) : 4294967295 - m = m ^^^ 4294967295 := by
  have h : (BitVec.ofNat 32 m ^^^ BitVec.allOnes 32).toNat = (~~~ BitVec.ofNat 32 m).toNat := by rw [BitVec.xor_allOnes]
  rw [BitVec.toNat_xor, BitVec.toNat_not, BitVec.toNat_ofNat, BitVec.toNat_allOnes, Nat.mod_eq_of_lt (by omega), show (2 : Nat) ^ 32 - 1 = 4294967295 from rfl] at h
  exact h.symm
theorem bytes_same {a b : ByteArray} (h : a.data.toList = b.data.toList) : a = b := by
  obtain ⟨⟨l⟩⟩ := a; obtain ⟨⟨m⟩⟩ := b
  exact congrArg (fun x => (⟨⟨x⟩⟩ : ByteArray)) h
/-- A bit of a byte, shifted down. -/
theorem shr_byte (b k : Nat) (q : Nat) (hq : b / 2 ^ k = q) : (b : Int) / 2 ^ k = (q : Int) := by
  subst hq
  exact_mod_cast rfl
/-- One round: a sum and a bit. -/
theorem rsum_step (c b k m q : Nat) (hm : m = stps k (c ^^^ (b % 2 ^ k))) (hq : b / 2 ^ k = q) :
    (q % 2 = m % 2 → stps (k + 1) (c ^^^ (b % 2 ^ (k + 1))) = m / 2) ∧ (¬ q % 2 = m % 2 → stps (k + 1) (c ^^^ (b % 2 ^ (k + 1))) = m / 2 ^^^ 3988292384) := by
  have h := stps_bit c b k
  rw [← hm, hq, stp_bit _ _ (Nat.mod_lt _ (by decide))] at h
  rw [h]
  exact ⟨fun e => by rw [if_pos e, Nat.xor_zero], fun e => by rw [if_neg e]⟩

set_option maxHeartbeats 1000000 in
theorem rsum_any (s : ByteArray) (hs : s.size ≤ 1000000) (r : Nat) (hr : sumN s.data.toList = r) (w : World) :
    Calls Try.prog 13 #[.string s] w fun e w' => e = .returned (.int .u32 r) ∧ w = w' := by
  have HR := Lib.hid hr
  have HSZ := Lib.hid hs
  clear hr hs
  go_enter Try.func13, Try.ntmps13
  go_wp2_with fail
  go_loop [3, 4] (fun n i => ∃ k m : Nat, k ≤ s.size ∧ i = .int .i64 k ∧ n = .int .u32 m ∧ m < 4294967296 ∧ m = raw 4294967295 (s.data.toList.take k)) (fun _ i => s.size - (intOf i).toNat)
  case atStart => exact ⟨0, 4294967295, Nat.zero_le _, rfl, rfl, by decide, rfl⟩
  case round =>
    obtain ⟨k, m, hk, rfl, rfl, hm, hv⟩ := hrel
    have HV := Lib.hid hv
    clear hv
    by_cases hp : k < s.size
    · have kk : (k : Int) < s.size := by omega
      have w2 : IntKind.i64.wrap ((k : Int) + 1) = (k : Int) + 1 := by have := HSZ.out; rw [IntKind.wrap_i64]; omega
      have hb := (s[k]'hp).toNat_lt
      have HS : Hid (raw 4294967295 (s.data.toList.take (k + 1)) = stps 8 (m ^^^ (s[k]'hp).toNat)) := Lib.hid (by rw [take_snoc' s k hp, raw_snoc, ← HV.out])
      go_wp2_with fail
      go_loop [3, 5] (fun n j => ∃ i m1 : Nat, i ≤ 8 ∧ j = .int .i64 i ∧ n = .int .u32 m1 ∧ m1 < 4294967296 ∧ m1 = stps i (m ^^^ ((s[k]'hp).toNat % 2 ^ i))) (fun _ j => 8 - (intOf j).toNat)
      case atStart => exact ⟨0, m, by decide, rfl, rfl, hm, by simp [stps, Nat.mod_one]⟩
      case round =>
        obtain ⟨i, m1, hi, rfl, rfl, hm1, hv1⟩ := hrel
        have HV1 := Lib.hid hv1
        by_cases h8 : i = 8
        · have e2 : (s[k]'hp).toNat % 2 ^ 8 = (s[k]'hp).toNat := Nat.mod_eq_of_lt hb
          subst h8
          rw [e2] at HV1
          clear hv1 e2
          go_wp2_with fail
          go_round
          case rel => exact ⟨k + 1, m1, by omega, by go_num, rfl, hm1, by rw [HS.out, ← HV1.out]⟩
          case measure => simp [intOf]; omega
        · have hlt : (i : Int) < 8 := by omega
          obtain ⟨q, hq⟩ : ∃ q, (s[k]'hp).toNat / 2 ^ i = q := ⟨_, rfl⟩
          obtain ⟨y1, y2⟩ := rsum_step m (s[k]'hp).toNat i m1 q hv1 hq
          have Y1 := Lib.hid y1
          have Y2 := Lib.hid y2
          have hsh := shr_byte (s[k]'hp).toNat i q hq
          have hx := xor_u32 (m1 / 2) 3988292384 (by omega) (by decide)
          have hxl : m1 / 2 ^^^ 3988292384 < 4294967296 := Nat.xor_lt_two_pow (n := 32) (by omega) (by decide)
          have hx' : bits BinOp.xor IntKind.u32 ((m1 : Int) / 2) 3988292384 = ((m1 / 2 ^^^ 3988292384 : Nat) : Int) := by
            rw [← hx]; congr 1
          clear hv1 y1 y2 hq hx
          by_cases hc : q % 2 = m1 % 2
          · have c1 : ((q : Int) % 2 == (m1 : Int) % 2) = true := by simp; omega
            have c2 : (!(q : Int) % 2 == (m1 : Int) % 2) = false := by rw [c1]; rfl
            have HC := Lib.hid hc
            clear hc
            go_wp2_with fail
            go_round
            case rel => exact ⟨i + 1, m1 / 2, by omega, by go_num, by go_num, by omega, (Y1.out HC.out).symm⟩
            case measure => simp [intOf]; omega
          · have c1 : ((q : Int) % 2 == (m1 : Int) % 2) = false := by simp; omega
            have c2 : (!(q : Int) % 2 == (m1 : Int) % 2) = true := by rw [c1]; rfl
            have HC := Lib.hid hc
            clear hc
            generalize m1 / 2 ^^^ 3988292384 = mx at *
            go_wp2_with fail
            go_round
            case rel => exact ⟨i + 1, mx, by omega, by go_num, rfl, hxl, (Y2.out HC.out).symm⟩
            case measure => simp [intOf]; omega
    · have e2 : s.data.toList.take k = s.data.toList := by rw [show k = s.data.toList.length from by rw [← Lib.size_eq]; omega, List.take_length]
      rw [e2] at HV
      have kk : ¬ (k : Int) < s.size := by omega
      have HE : Hid ((4294967295 : Int) - m = r) := Lib.hid (by
        have := HR.out; unfold sumN at this; rw [← HV.out, ← not_u32 m hm] at this; omega)
      clear e2
      go_wp2_with fail
      go_ret
      exact ⟨ret_int HE.out, rfl⟩

theorem rnat_is (n : Int) (hn : Word n) (f : ByteArray) (hf : f.data.toList = natB n.toNat) (w : World) :
    Calls Try.prog 25 #[.int .u64 n] w fun e w' => e = .returned (.string f) ∧ Below w.heap.size w w' := by
  rw [← str_mk hf]; exact rnat_any n hn w
/-- A byte that lies in memory, as a string. -/
theorem byte_text (W : World) (g : Nat) (b : UInt8) (k : Int) (hk : k = (b.toNat : Int)) (h : W.cell? ⟨g, 0, none⟩ = some (.int .u8 k)) :
    (convert 35 9 (.slice (some ⟨g, 0, none⟩) 1 1)).run Try.prog W = .ok (.string ⟨#[b]⟩) W := by
  subst hk
  have h := run_convert_bytes_arg (P := Try.prog) W _ _ Try.underlying35 Try.underlying5 g 0 1 1 [(b.toNat : Int)] rfl (by
    intro i hi
    obtain rfl : i = 0 := by omega
    simpa using h) _ Try.underlying9
  rw [h]
  simp [strOfNums]

set_option maxRecDepth 100000 in
set_option maxHeartbeats 1000000 in
theorem rclose_any (b : UInt8) (k : Int) (hk : k = (b.toNat : Int)) (s f : ByteArray) (hs : s.size ≤ 262144) (hf : f.data.toList = frameB b s.data.toList) (w : World) :
    Calls Try.prog 14 #[.int .u8 k, .string s] w fun e w' => e = .returned (.string f) ∧ Below w.heap.size w w' := by
  have HF := Lib.hid hf
  have HW : Hid (Word (s.size : Int)) := Lib.hid ⟨by omega, by omega⟩
  obtain ⟨hd, ehd⟩ : ∃ hd : ByteArray, hd.data.toList = headB b s.data.toList := ⟨⟨(headB b s.data.toList).toArray⟩, rfl⟩
  obtain ⟨nb, enb⟩ : ∃ nb : ByteArray, nb.data.toList = natB s.size := ⟨⟨(natB s.size).toArray⟩, rfl⟩
  obtain ⟨r, er⟩ : ∃ r, sumN hd.data.toList = r := ⟨_, rfl⟩
  have hr : r < 4294967296 := er ▸ sumN_lt _
  obtain ⟨lw, elw⟩ : ∃ lw : ByteArray, lw.data.toList = le4 r := ⟨⟨(le4 r).toArray⟩, rfl⟩
  have HHD := Lib.hid ehd
  have HR := Lib.hid er
  have HLW := Lib.hid elw
  have HNB := Lib.hid enb
  have HN : Hid ((natB s.size).length ≤ 10) := Lib.hid (natB_len10 (by omega))
  have HHZ : Hid (hd.size ≤ 262200) := Lib.hid (by rw [Lib.size_eq, ehd]; unfold headB; have h1 := HN.out; rw [Lib.size_eq] at hs; rw [← Lib.size_eq]; simp only [List.length_append, List.length_cons, List.length_nil]; rw [← Lib.size_eq]; rw [← Lib.size_eq] at hs; omega)
  have hnz : nb.size ≤ 10 := by rw [Lib.size_eq, enb]; exact HN.out
  have HC := Lib.hid (fun W g h => byte_text W g b k hk h)
  have HSZ := Lib.hid hs
  have kz : k < 256 ∧ 0 ≤ k := by have := b.toNat_lt; omega
  obtain ⟨k1, k0⟩ := kz
  have hA : (⟨#[79, 71, 1]⟩ ++ ⟨#[b]⟩ ++ nb ++ s : ByteArray) = hd := by
    have e : (⟨#[79, 71, 1]⟩ ++ ⟨#[b]⟩ ++ nb ++ s : ByteArray).data.toList = hd.data.toList := by
      simp only [ByteArray.data_append, Array.toList_append]
      rw [enb, ehd]; unfold headB; rw [← Lib.size_eq]; simp
    exact bytes_same e
  have HA := Lib.hid hA
  clear hf hk ehd er elw enb hA
  go_enter Try.func14, Try.ntmps14
  go_upto_region 1 with fail
  go_cut [5] (fun x wx => x = .string hd ∧ Below w.heap.size w wx)
  case first =>
    have hcv := HC.out
    have HX : ∀ wC, Below (w.alloc (.cells #[.int .u8 k] 5)).drew.heap.size (w.alloc (.cells #[.int .u8 k] 5)).drew wC → wC.cell? ⟨w.heap.size, 0, none⟩ = some (.int .u8 k) := fun wC h => cell_later h (by go_simp)
    have hwz : IntKind.u64.wrap (s.size : Int) = s.size := by have := HSZ.out; rw [IntKind.wrap_u64]; omega
    go_region_with (go_at_call 25; refine (rnat_is _ HW.out nb (by rw [Int.toNat_natCast]; exact HNB.out) _).mono ?_; rintro e wC ⟨rfl, hbC⟩; try (have hcc := HX _ hbC))
    all_goals (go_wp2_with fail; go_meet; rw [HA.out]; refine ⟨rfl, ?_⟩)
    all_goals first
    | exact ((Below.refl _ _).drew.trans hbC).alloc hbC.size _
    | exact ((Below.refl _ _).alloc (Nat.le_refl _) _).drew.trans (hbC.mono (by simp))
  case rest =>
    obtain ⟨rfl, hb1⟩ := hcut
    have hcv := bytes_text wc (le4 r) 4 #[.int .u8 (r % 256), .int .u8 (r / 256 % 256), .int .u8 (r / 65536 % 256), .int .u8 (r / 16777216)] rfl (by
      unfold le4
      simp only [List.map_cons, List.map_nil]
      rw [ofNat_toNat (by omega), ofNat_toNat (by omega), ofNat_toNat (by omega), ofNat_toNat (by omega)]
      rfl)
    rw [str_mk HLW.out] at hcv
    have HE : Hid (hd ++ lw = f) := Lib.hid (bytes_same (by
      rw [ByteArray.data_append, Array.toList_append, HF.out, HLW.out, ← HR.out, HHD.out]; rfl))
    have HZ : Hid (lw.size = 4) := Lib.hid (by rw [Lib.size_eq, HLW.out]; rfl)
    have hdz : hd.size ≤ 262200 := HHZ.out
    have lwz : lw.size ≤ 4 := Nat.le_of_eq HZ.out
    go_wp2_with fail
    refine (rsum_any hd (by omega) r HR.out _).mono ?_
    rintro e w' ⟨rfl, rfl⟩
    go_wp2_with fail
    go_ret
    exact ⟨by rw [← HE.out]; rfl, hb1.alloc hb1.size _⟩
end Go.Proofs.Ytnjheggnnmbgaaa
