/-
  Walks: share.Read with what it calls.
-/
import Derived.Test.YtbllnhkfnbadgaaShareB
import Derived.Test.YtbllnhkfnbadgaaTwo
import Derived.Test.YtbllnhkfnbadgaaShelf
namespace Go.Proofs.Ytbllnhkfnbadgaa
set_option linter.unusedVariables false
set_option linter.unusedSimpArgs false
open Go.RowKit Go.Shelf

/-- A text ahead of its first stroke, and behind it. -/
def slash (l : List UInt8) : Int := Lib.indexByte l 47
def frontL (l : List UInt8) : List UInt8 := if slash l = -1 then l else l.take (slash l).toNat
def backL (l : List UInt8) : List UInt8 := if slash l = -1 then [] else l.drop ((slash l).toNat + 1)
theorem front_none {l : List UInt8} (h : slash l = -1) : frontL l = l ∧ backL l = [] := by
  unfold frontL backL; rw [if_pos h, if_pos h]; exact ⟨rfl, rfl⟩
theorem front_some {l : List UInt8} {i : Nat} (h : slash l = i) : frontL l = l.take i ∧ backL l = l.drop (i + 1) := by
  unfold frontL backL; rw [h, if_neg (by omega), if_neg (by omega)]; exact ⟨rfl, rfl⟩
theorem slash_some {l : List UInt8} (h : ¬ slash l = -1) : ∃ i : Nat, slash l = i ∧ i < l.length ∧ l[i]? = some 47 := by
  have h0 := Lib.indexByte_ge l 47
  unfold slash at *
  obtain ⟨i, hi⟩ := Int.eq_ofNat_of_zero_le (show 0 ≤ Lib.indexByte l 47 by omega)
  have h1 := (Lib.indexByte_some hi).1
  refine ⟨i, hi, ?_, h1⟩
  rcases Nat.lt_or_ge i l.length with h2 | h2
  · exact h2
  · rw [List.getElem?_eq_none h2] at h1; cases h1
theorem ext_front (s : ByteArray) (i : Nat) : (s.extract 0 i).data.toList = s.data.toList.take i := by
  rw [Lib.extract_data]; simp
theorem ext_back (s : ByteArray) (i : Nat) : (s.extract i s.size).data.toList = s.data.toList.drop i := by
  rw [Lib.extract_data, Lib.size_eq]
  exact List.take_of_length_le (by rw [List.length_drop]; exact Nat.le_refl _)

set_option maxHeartbeats 1000000 in
theorem cut1_any (s : ByteArray) (hs : s.size ≤ 9223372036854775807) (w : World) :
    Calls Try.prog 42 #[.string s, .string ⟨#[47]⟩] w fun e w' =>
      (∃ (x y : ByteArray) (o : Bool), e = .returned (.tuple #[.string x, .string y, .bool o]) ∧ x.data.toList = frontL s.data.toList ∧ y.data.toList = backL s.data.toList) ∧ Below w.heap.size w w' := by
  by_cases h : slash s.data.toList = -1
  · have E := Lib.hid (front_none h)
    have H : Lib.indexByte s.data.toList 47 = -1 := h
    clear h
    go_enter Try.func42, Try.ntmps42
    go_wp2_with fail
    refine (Try.stringslite_Index_one s 47 _).mono ?_
    rw [H]
    rintro e w' ⟨rfl, rfl⟩
    go_wp2_with fail
    refine bodyPost_ret (v := .tuple #[.string s, .string ⟨#[]⟩, .bool false]) (by simp [results, Try.results42, go_sem]) rfl ⟨⟨_, _, _, rfl, E.out.1.symm, E.out.2.symm⟩, Below.refl _ _⟩
  · obtain ⟨i, hi, hl, _⟩ := slash_some h
    have E := Lib.hid (front_some hi)
    have H : Lib.indexByte s.data.toList 47 = i := hi
    have c1 : (0 : Int) ≤ (i : Int) := by omega
    rw [← Lib.size_eq] at hl
    have c2 : (i : Int) ≤ s.size := by omega
    have c3 : (0 : Int) ≤ (i : Int) + 1 := by omega
    have c4 : (i : Int) + 1 ≤ s.size := by omega
    have c5 : (i : Int) + 1 < 9223372036854775808 := by omega
    clear h hi
    go_enter Try.func42, Try.ntmps42
    go_wp2_with fail
    refine (Try.stringslite_Index_one s 47 _).mono ?_
    rw [H]
    rintro e w' ⟨rfl, rfl⟩
    go_wp2_with fail
    go_region
    go_wp2_with fail
    refine bodyPost_ret (v := .tuple #[.string (s.extract 0 i), .string (s.extract (i + 1) s.size), .bool true]) (by simp [results, Try.results42, go_sem]) rfl ⟨⟨_, _, _, rfl, ?_, ?_⟩, (Below.refl _ _).drew⟩
    · rw [ext_front, E.out.1]
    · rw [ext_back, E.out.2]

set_option maxHeartbeats 1000000 in
theorem cut_any (s : ByteArray) (hs : s.size ≤ 9223372036854775807) (w : World) :
    Calls Try.prog 35 #[.string s, .string ⟨#[47]⟩] w fun e w' =>
      (∃ (x y : ByteArray) (o : Bool), e = .returned (.tuple #[.string x, .string y, .bool o]) ∧ x.data.toList = frontL s.data.toList ∧ y.data.toList = backL s.data.toList) ∧ Below w.heap.size w w' := by
  go_enter Try.func35, Try.ntmps35
  go_wp2_with fail
  refine (cut1_any s hs _).mono ?_
  rintro e wA ⟨⟨x, y, o, rfl, hx, hy⟩, hbA⟩
  have HX := Lib.hid hx
  have HY := Lib.hid hy
  clear hx hy
  go_wp2_with fail
  refine bodyPost_ret (v := .tuple #[.string x, .string y, .bool o]) (by simp [results, Try.results35, go_sem]) rfl ⟨⟨_, _, _, rfl, HX.out, HY.out⟩, hbA⟩

/-- The four names, and the parts that they tell. -/
def nm1 (l : List UInt8) : Bool := l == [108, 101, 97, 115, 116]
def nm2 (l : List UInt8) : Bool := l == [113, 117, 97, 114, 116, 101, 114]
def nm3 (l : List UInt8) : Bool := l == [104, 97, 108, 102]
def nm4 (l : List UInt8) : Bool := l == [109, 111, 115, 116]
def nmO (l : List UInt8) : Bool := nm1 l || nm2 l || nm3 l || nm4 l
def nmA (l : List UInt8) : Int := if nm1 l = true then 0 else if nm2 l = true then 1 else if nm3 l = true then 1 else if nm4 l = true then 1 else 0
def nmB (l : List UInt8) : Int := if nm1 l = true then 1 else if nm2 l = true then 4 else if nm3 l = true then 2 else if nm4 l = true then 1 else 0

theorem ret_read {a b c d : Int} {o o' : Bool} (h : a = b) (h' : c = d) (h'' : o = o') : Ending.returned (.tuple #[.agg #[.int .u64 a, .int .u64 c], .bool o]) = .returned (.tuple #[.agg #[.int .u64 b, .int .u64 d], .bool o']) := by rw [h, h', h'']

set_option maxHeartbeats 1000000 in
theorem named_any (s : ByteArray) (w : World) :
    Calls Try.prog 25 #[.string s] w fun e w' =>
      e = .returned (.tuple #[.agg #[.int .u64 (nmA s.toList), .int .u64 (nmB s.toList)], .bool (nmO s.toList)]) ∧ Below w.heap.size w w' := by
  go_enter Try.func25, Try.ntmps25
  go_wp2_with fail
  · rename_i h1
    refine bodyPost_ret (v := .tuple #[.agg #[.int .u64 0, .int .u64 1], .bool true]) (by simp [results, Try.results25, go_sem]) rfl ⟨ret_read ?_ ?_ ?_, (Below.refl _ _).alloc (Nat.le_refl _) _⟩
    all_goals simp only [nmA, nmB, nmO, nm1, nm2, nm3, nm4, h1]; rfl
  · rename_i h1 h2
    refine bodyPost_ret (v := .tuple #[.agg #[.int .u64 1, .int .u64 4], .bool true]) (by simp [results, Try.results25, go_sem]) rfl ⟨ret_read ?_ ?_ ?_, (Below.refl _ _).alloc (Nat.le_refl _) _⟩
    all_goals simp only [nmA, nmB, nmO, nm1, nm2, nm3, nm4, h1, h2]; rfl
  · rename_i h1 h2 h3
    refine bodyPost_ret (v := .tuple #[.agg #[.int .u64 1, .int .u64 2], .bool true]) (by simp [results, Try.results25, go_sem]) rfl ⟨ret_read ?_ ?_ ?_, (Below.refl _ _).alloc (Nat.le_refl _) _⟩
    all_goals simp only [nmA, nmB, nmO, nm1, nm2, nm3, nm4, h1, h2, h3]; rfl
  · rename_i h1 h2 h3 h4
    refine bodyPost_ret (v := .tuple #[.agg #[.int .u64 1, .int .u64 1], .bool true]) (by simp [results, Try.results25, go_sem]) rfl ⟨ret_read ?_ ?_ ?_, (Below.refl _ _).alloc (Nat.le_refl _) _⟩
    all_goals simp only [nmA, nmB, nmO, nm1, nm2, nm3, nm4, h1, h2, h3, h4]; rfl
  · rename_i h1 h2 h3 h4
    refine bodyPost_ret (v := .tuple #[.agg #[.int .u64 0, .int .u64 0], .bool false]) (by simp [results, Try.results25, go_sem]) rfl ⟨ret_read ?_ ?_ ?_, (Below.refl _ _).alloc (Nat.le_refl _) _⟩
    all_goals simp only [nmA, nmB, nmO, nm1, nm2, nm3, nm4, h1, h2, h3, h4]; rfl

/-- Hundredths. -/
def pcB (l : List UInt8) : Bool := Lib.hasSuffix l [37]
def pcF (l : List UInt8) : List UInt8 := Lib.trimSuffix l [37]
def ctA (l : List UInt8) : Int := if pcB l = true then numV (pcF l) else numV (frontL l)
def ctB (l : List UInt8) : Int := if pcB l = true then 100 else numV (backL l)
def ctO (l : List UInt8) : Bool := if pcB l = true then numO (pcF l) else numO (frontL l) && numO (backL l)
theorem ct_pc {l : List UInt8} (h : pcB l = true) : ctA l = numV (pcF l) ∧ ctB l = 100 ∧ ctO l = numO (pcF l) := by
  unfold ctA ctB ctO; rw [if_pos h, if_pos h, if_pos h]; exact ⟨rfl, rfl, rfl⟩
theorem ct_not {l : List UInt8} (h : pcB l = false) : ctA l = numV (frontL l) ∧ ctB l = numV (backL l) ∧ ctO l = (numO (frontL l) && numO (backL l)) := by
  unfold ctA ctB ctO; rw [h]; exact ⟨rfl, rfl, rfl⟩
theorem ct_word (l : List UInt8) : Word (ctA l) ∧ Word (ctB l) := by
  unfold ctA ctB
  split
  · exact ⟨num_word _, by omega, by omega⟩
  · exact ⟨num_word _, num_word _⟩

theorem number_of (s : ByteArray) (l : List UInt8) (h : s.data.toList = l) (w : World) :
    Calls Try.prog 34 #[.string s] w fun e w' =>
      e = .returned (.tuple #[.int .u64 (numV l), .bool (numO l)]) ∧ Below w.heap.size w w' := by
  subst h; exact number_any s w
theorem suffix_any (s : ByteArray) (hs : s.size ≤ 9223372036854775807) (w : World) :
    Calls Try.prog 33 #[.string s, .string ⟨#[37]⟩] w fun e w' =>
      e = .returned (.tuple #[.string ⟨(pcF s.data.toList).toArray⟩, .bool (pcB s.data.toList)]) ∧ w' = w := Try.strings_CutSuffix s ⟨#[37]⟩ w hs

set_option maxHeartbeats 1000000 in
theorem counted_any (s : ByteArray) (hs : s.size ≤ 9223372036854775807) (w : World) :
    Calls Try.prog 26 #[.string s] w fun e w' =>
      e = .returned (.tuple #[.agg #[.int .u64 (ctA s.data.toList), .int .u64 (ctB s.data.toList)], .bool (ctO s.data.toList)]) ∧ Below w.heap.size w w' := by
  cases hp : pcB s.data.toList with
  | true =>
    have P := Lib.hid hp
    have E := Lib.hid (ct_pc hp)
    clear hp
    go_enter Try.func26, Try.ntmps26
    go_wp2_with fail
    refine (suffix_any s hs _).mono ?_
    rw [P.out]
    rintro e w' ⟨rfl, rfl⟩
    have T := Two.new w (.int .u64 0) (.int .u64 0) 24
    have B := (Below.refl w.heap.size w).alloc (Nat.le_refl _) (.cells #[.int .u64 0, .int .u64 0] 24)
    go_wp2_with fail
    refine (number_of _ (pcF s.data.toList) rfl _).mono ?_
    rintro e wA ⟨rfl, hbA⟩
    have TA := T.call hbA
    have BA := B.trans (hbA.mono (by simp))
    clear T B hbA
    obtain ⟨c0, c1, f0, f1⟩ := TA
    go_wp2_with fail
    refine bodyPost_ret (v := .tuple #[.agg #[.int .u64 (numV (pcF s.data.toList)), .int .u64 100], .bool (numO (pcF s.data.toList))]) (by simp [results, Try.results26, go_sem, c0, c1]) rfl ⟨ret_read E.out.1.symm E.out.2.1.symm E.out.2.2.symm, below_put BA (Nat.le_refl _) _ _⟩
  | false =>
    have P := Lib.hid hp
    have E := Lib.hid (ct_not hp)
    clear hp
    go_enter Try.func26, Try.ntmps26
    go_wp2_with fail
    refine (suffix_any s hs _).mono ?_
    rw [P.out]
    rintro e w' ⟨rfl, rfl⟩
    have T := Two.new w (.int .u64 0) (.int .u64 0) 24
    have B := (Below.refl w.heap.size w).alloc (Nat.le_refl _) (.cells #[.int .u64 0, .int .u64 0] 24)
    go_wp2_with fail
    refine (cut_any s hs _).mono ?_
    rintro e wA ⟨⟨x, y, o, rfl, hx, hy⟩, hbA⟩
    have HX := Lib.hid hx
    have HY := Lib.hid hy
    clear hx hy
    have TA := T.call hbA
    have BA := B.trans (hbA.mono (by simp))
    clear T B hbA
    go_wp2_with fail
    refine (number_of x _ HX.out _).mono ?_
    rintro e wB ⟨rfl, hbB⟩
    have TB := TA.call hbB
    have BB := BA.trans (hbB.mono BA.size)
    clear TA BA hbB
    go_wp2_with fail
    refine (number_of y _ HY.out _).mono ?_
    rintro e wC ⟨rfl, hbC⟩
    have TC := TB.call hbC
    have BC := BB.trans (hbC.mono BB.size)
    clear TB BB hbC
    obtain ⟨c0, c1, f0, f1⟩ := TC
    cases h1 : numO (frontL s.data.toList) with
    | true =>
      rw [h1] at E
      go_wp2_with fail
      refine bodyPost_ret (v := .tuple #[.agg #[.int .u64 (numV (frontL s.data.toList)), .int .u64 (numV (backL s.data.toList))], .bool (numO (backL s.data.toList))]) (by simp [results, Try.results26, go_sem, c0, c1]) rfl ⟨ret_read E.out.1.symm E.out.2.1.symm E.out.2.2.symm, below_put BC (Nat.le_refl _) _ _⟩
    | false =>
      rw [h1] at E
      go_wp2_with fail
      refine bodyPost_ret (v := .tuple #[.agg #[.int .u64 (numV (frontL s.data.toList)), .int .u64 (numV (backL s.data.toList))], .bool false]) (by simp [results, Try.results26, go_sem, c0, c1]) rfl ⟨ret_read E.out.1.symm E.out.2.1.symm E.out.2.2.symm, below_put BC (Nat.le_refl _) _ _⟩
end Go.Proofs.Ytbllnhkfnbadgaa
