/-
  Walks: the reference's Read.
-/
import Derived.Test.YtbllnhkfnbadgaaShareS
import Derived.Deep.CutBlock
import Derived.Deep.DeepCutAuto
import Derived.Deep.CutRange
namespace Go.Proofs.Ytbllnhkfnbadgaa
set_option linter.unusedVariables false
set_option linter.unusedSimpArgs false
open Go.RowKit Go.Shelf

theorem rnumber_of (s : ByteArray) (l : List UInt8) (h : s.data.toList = l) (w : World) :
    Calls Try.prog 27 #[.string s] w fun e w' =>
      e = .returned (.tuple #[.int .u64 (numV l), .bool (numO l)]) ∧ w = w' := by
  subst h; exact rnumber_any s w
theorem slash_none {l : List UInt8} (h : slash l = -1) (k : Nat) : l[k]? ≠ some 47 := Lib.indexByte_none h k
theorem slash_ahead {l : List UInt8} {i : Nat} (h : slash l = i) : l[i]? = some 47 ∧ ∀ k, k < i → l[k]? ≠ some 47 := Lib.indexByte_some h
theorem byte_not (s : ByteArray) (k : Nat) (h : k < s.size) (hx : s.data.toList[k]? ≠ some 47) : (((s[k]'h).toNat : Int) == 47) = false := by
  rw [byte_at s k h] at hx
  simp only [beq_eq_false_iff_ne, ne_eq]
  intro e
  apply hx
  congr 1
  exact UInt8.toNat_inj.1 (by show (s[k]'h).toNat = 47; omega)
theorem byte_is (s : ByteArray) (k : Nat) (h : k < s.size) (hx : s.data.toList[k]? = some 47) : (((s[k]'h).toNat : Int) == 47) = true := by
  rw [byte_at s k h] at hx
  rw [Option.some.inj hx]; rfl
/-- Whether hundredths are told, by the last byte. -/
theorem pc_cases (s : ByteArray) : (s.size = 0 ∧ pcB s.data.toList = false) ∨ (∃ m : Nat, ∃ h : m < s.size, s.size = m + 1 ∧
    ((pcB s.data.toList = true ∧ pcF s.data.toList = s.data.toList.take m ∧ (((s[m]'h).toNat : Int) == 37) = true) ∨ (pcB s.data.toList = false ∧ (((s[m]'h).toNat : Int) == 37) = false))) := by
  obtain ⟨⟨l⟩⟩ := s
  show (l.length = 0 ∧ pcB l = false) ∨ (∃ m : Nat, ∃ h : m < l.length, l.length = m + 1 ∧
    ((pcB l = true ∧ pcF l = l.take m ∧ (((l[m]'h).toNat : Int) == 37) = true) ∨ (pcB l = false ∧ (((l[m]'h).toNat : Int) == 37) = false)))
  rcases List.eq_nil_or_concat l with rfl | ⟨r, x, rfl⟩
  · left; exact ⟨rfl, by decide⟩
  · right
    have hl : (r.concat x).length = r.length + 1 := by simp
    have hp : pcB (r.concat x) = (x == 37) := by
      unfold pcB Lib.hasSuffix
      rw [Bool.eq_iff_iff]
      simp [List.isSuffixOf_iff_suffix]
      constructor
      · intro h; exact h.symm
      · intro h; exact h.symm
    have hx : (r.concat x)[r.length]'(by simp) = x := by simp
    refine ⟨r.length, by simp, hl, ?_⟩
    rw [hx, hp]
    by_cases h : x = 37
    · left
      subst h
      refine ⟨rfl, ?_, rfl⟩
      have hp' : Lib.hasSuffix (r.concat 37) [37] = true := hp
      unfold pcF Lib.trimSuffix
      rw [if_pos hp', hl]; rfl
    · right
      refine ⟨by simp [h], ?_⟩
      simp only [beq_eq_false_iff_ne, ne_eq]
      intro e
      exact h (UInt8.toNat_inj.1 (by show x.toNat = 37; omega))

theorem nm_one {l : List UInt8} (h : nm1 l = true) : rdA l = 0 ∧ rdB l = 1 ∧ rdO l = true := by
  have e : nmO l = true := by unfold nmO; rw [h]; rfl
  obtain ⟨x, y, z⟩ := rd_name e
  rw [x, y, z]; unfold nmA nmB; rw [h]; exact ⟨rfl, rfl, rfl⟩
theorem nm_two {l : List UInt8} (h : nm1 l = false) (h2 : nm2 l = true) : rdA l = 1 ∧ rdB l = 4 ∧ rdO l = true := by
  have e : nmO l = true := by unfold nmO; rw [h, h2]; rfl
  obtain ⟨x, y, z⟩ := rd_name e
  rw [x, y, z]; unfold nmA nmB; rw [h, h2]; exact ⟨rfl, rfl, rfl⟩
theorem nm_three {l : List UInt8} (h : nm1 l = false) (h2 : nm2 l = false) (h3 : nm3 l = true) : rdA l = 1 ∧ rdB l = 2 ∧ rdO l = true := by
  have e : nmO l = true := by unfold nmO; rw [h, h2, h3]; rfl
  obtain ⟨x, y, z⟩ := rd_name e
  rw [x, y, z]; unfold nmA nmB; rw [h, h2, h3]; exact ⟨rfl, rfl, rfl⟩
theorem nm_four {l : List UInt8} (h : nm1 l = false) (h2 : nm2 l = false) (h3 : nm3 l = false) (h4 : nm4 l = true) : rdA l = 1 ∧ rdB l = 1 ∧ rdO l = true := by
  have e : nmO l = true := by unfold nmO; rw [h, h2, h3, h4]; rfl
  obtain ⟨x, y, z⟩ := rd_name e
  rw [x, y, z]; unfold nmA nmB; rw [h, h2, h3, h4]; exact ⟨rfl, rfl, rfl⟩
theorem nm_none {l : List UInt8} (h : nm1 l = false) (h2 : nm2 l = false) (h3 : nm3 l = false) (h4 : nm4 l = false) : nmO l = false := by
  unfold nmO; rw [h, h2, h3, h4]; rfl

/-- What the loop leaves: of a text that tells no hundredths, what it counts. -/
def Left (l : List UInt8) (X Y : Int) (O : Bool) : Prop := pcB l = false → O = ctO l ∧ (O = true → X = ctA l ∧ Y = ctB l)
theorem left_none {l : List UInt8} (h : slash l = -1) : Left l 0 0 false := by
  intro hp
  have e := (ct_not hp).2.2
  rw [(front_none h).2] at e
  have e2 : numO [] = false := rfl
  rw [e2, Bool.and_false] at e
  exact ⟨e.symm, fun h => by cases h⟩
theorem left_some {l : List UInt8} {i : Nat} (h : slash l = i) : Left l (numV (l.take i)) (numV (l.drop (i + 1))) (numO (l.take i) && numO (l.drop (i + 1))) := by
  intro hp
  have e := ct_not hp
  rw [(front_some h).1, (front_some h).2] at e
  exact ⟨e.2.2.symm, fun _ => ⟨e.1.symm, e.2.1.symm⟩⟩

set_option maxRecDepth 1000000 in
set_option maxHeartbeats 4000000 in
theorem rname1 (s : ByteArray) (hs : s.size ≤ 9223372036854775807) (h1 : nm1 s.data.toList = true) (w : World) :
    Calls Try.prog 19 #[.string s] w fun e w' =>
      e = .returned (.tuple #[.agg #[.int .u64 (rdA s.data.toList), .int .u64 (rdB s.data.toList)], .bool (rdO s.data.toList)]) ∧ Below w.heap.size w w' := by
  have q1 : (s.toList == [108, 101, 97, 115, 116]) = true := by rw [Lib.toList_data]; exact h1
  have E := Lib.hid (nm_one h1)
  go_enter Try.func19, Try.ntmps19
  go_wp2_with fail
  go_loop [22] (fun i => ∃ k : Nat, k ≤ 0 ∧ i = .int .i64 k) (fun i => 4 - intU i)
  case atStart => exact ⟨0, by omega, rfl⟩
  case round =>
    obtain ⟨k, hk, rfl⟩ := hrel
    obtain rfl : k = 0 := by omega
    · go_wp2_with fail
      refine bodyPost_ret (v := .tuple #[.agg #[.int .u64 0, .int .u64 1], .bool true]) (by simp [results, Try.results19, go_sem]) rfl ⟨ret_read E.out.1.symm E.out.2.1.symm E.out.2.2.symm, ?_⟩
      exact (((Below.refl _ _).alloc (Nat.le_refl _) _).alloc (by simp) _).alloc (by simp; omega) _

set_option maxRecDepth 1000000 in
set_option maxHeartbeats 4000000 in
theorem rname2 (s : ByteArray) (hs : s.size ≤ 9223372036854775807) (h1 : nm1 s.data.toList = false) (h2 : nm2 s.data.toList = true) (w : World) :
    Calls Try.prog 19 #[.string s] w fun e w' =>
      e = .returned (.tuple #[.agg #[.int .u64 (rdA s.data.toList), .int .u64 (rdB s.data.toList)], .bool (rdO s.data.toList)]) ∧ Below w.heap.size w w' := by
  have q1 : (s.toList == [108, 101, 97, 115, 116]) = false := by rw [Lib.toList_data]; exact h1
  have q2 : (s.toList == [113, 117, 97, 114, 116, 101, 114]) = true := by rw [Lib.toList_data]; exact h2
  have E := Lib.hid (nm_two h1 h2)
  go_enter Try.func19, Try.ntmps19
  go_wp2_with fail
  go_loop [22] (fun i => ∃ k : Nat, k ≤ 1 ∧ i = .int .i64 k) (fun i => 4 - intU i)
  case atStart => exact ⟨0, by omega, rfl⟩
  case round =>
    obtain ⟨k, hk, rfl⟩ := hrel
    obtain rfl | rfl : k = 0 ∨ k = 1 := by omega
    · go_wp2_with fail
      go_round
      case rel => exact ⟨1, by omega, by go_num⟩
      case measure => simp [intU]
    · go_wp2_with fail
      refine bodyPost_ret (v := .tuple #[.agg #[.int .u64 1, .int .u64 4], .bool true]) (by simp [results, Try.results19, go_sem]) rfl ⟨ret_read E.out.1.symm E.out.2.1.symm E.out.2.2.symm, ?_⟩
      exact (((Below.refl _ _).alloc (Nat.le_refl _) _).alloc (by simp) _).alloc (by simp; omega) _

set_option maxRecDepth 1000000 in
set_option maxHeartbeats 4000000 in
theorem rname3 (s : ByteArray) (hs : s.size ≤ 9223372036854775807) (h1 : nm1 s.data.toList = false) (h2 : nm2 s.data.toList = false) (h3 : nm3 s.data.toList = true) (w : World) :
    Calls Try.prog 19 #[.string s] w fun e w' =>
      e = .returned (.tuple #[.agg #[.int .u64 (rdA s.data.toList), .int .u64 (rdB s.data.toList)], .bool (rdO s.data.toList)]) ∧ Below w.heap.size w w' := by
  have q1 : (s.toList == [108, 101, 97, 115, 116]) = false := by rw [Lib.toList_data]; exact h1
  have q2 : (s.toList == [113, 117, 97, 114, 116, 101, 114]) = false := by rw [Lib.toList_data]; exact h2
  have q3 : (s.toList == [104, 97, 108, 102]) = true := by rw [Lib.toList_data]; exact h3
  have E := Lib.hid (nm_three h1 h2 h3)
  go_enter Try.func19, Try.ntmps19
  go_wp2_with fail
  go_loop [22] (fun i => ∃ k : Nat, k ≤ 2 ∧ i = .int .i64 k) (fun i => 4 - intU i)
  case atStart => exact ⟨0, by omega, rfl⟩
  case round =>
    obtain ⟨k, hk, rfl⟩ := hrel
    obtain rfl | rfl | rfl : k = 0 ∨ k = 1 ∨ k = 2 := by omega
    · go_wp2_with fail
      go_round
      case rel => exact ⟨1, by omega, by go_num⟩
      case measure => simp [intU]
    · go_wp2_with fail
      go_round
      case rel => exact ⟨2, by omega, by go_num⟩
      case measure => simp [intU]
    · go_wp2_with fail
      refine bodyPost_ret (v := .tuple #[.agg #[.int .u64 1, .int .u64 2], .bool true]) (by simp [results, Try.results19, go_sem]) rfl ⟨ret_read E.out.1.symm E.out.2.1.symm E.out.2.2.symm, ?_⟩
      exact (((Below.refl _ _).alloc (Nat.le_refl _) _).alloc (by simp) _).alloc (by simp; omega) _

set_option maxRecDepth 1000000 in
set_option maxHeartbeats 4000000 in
theorem rname4 (s : ByteArray) (hs : s.size ≤ 9223372036854775807) (h1 : nm1 s.data.toList = false) (h2 : nm2 s.data.toList = false) (h3 : nm3 s.data.toList = false) (h4 : nm4 s.data.toList = true) (w : World) :
    Calls Try.prog 19 #[.string s] w fun e w' =>
      e = .returned (.tuple #[.agg #[.int .u64 (rdA s.data.toList), .int .u64 (rdB s.data.toList)], .bool (rdO s.data.toList)]) ∧ Below w.heap.size w w' := by
  have q1 : (s.toList == [108, 101, 97, 115, 116]) = false := by rw [Lib.toList_data]; exact h1
  have q2 : (s.toList == [113, 117, 97, 114, 116, 101, 114]) = false := by rw [Lib.toList_data]; exact h2
  have q3 : (s.toList == [104, 97, 108, 102]) = false := by rw [Lib.toList_data]; exact h3
  have q4 : (s.toList == [109, 111, 115, 116]) = true := by rw [Lib.toList_data]; exact h4
  have E := Lib.hid (nm_four h1 h2 h3 h4)
  go_enter Try.func19, Try.ntmps19
  go_wp2_with fail
  go_loop [22] (fun i => ∃ k : Nat, k ≤ 3 ∧ i = .int .i64 k) (fun i => 4 - intU i)
  case atStart => exact ⟨0, by omega, rfl⟩
  case round =>
    obtain ⟨k, hk, rfl⟩ := hrel
    obtain rfl | rfl | rfl | rfl : k = 0 ∨ k = 1 ∨ k = 2 ∨ k = 3 := by omega
    · go_wp2_with fail
      go_round
      case rel => exact ⟨1, by omega, by go_num⟩
      case measure => simp [intU]
    · go_wp2_with fail
      go_round
      case rel => exact ⟨2, by omega, by go_num⟩
      case measure => simp [intU]
    · go_wp2_with fail
      go_round
      case rel => exact ⟨3, by omega, by go_num⟩
      case measure => simp [intU]
    · go_wp2_with fail
      refine bodyPost_ret (v := .tuple #[.agg #[.int .u64 1, .int .u64 1], .bool true]) (by simp [results, Try.results19, go_sem]) rfl ⟨ret_read E.out.1.symm E.out.2.1.symm E.out.2.2.symm, ?_⟩
      exact (((Below.refl _ _).alloc (Nat.le_refl _) _).alloc (by simp) _).alloc (by simp; omega) _
end Go.Proofs.Ytbllnhkfnbadgaa
