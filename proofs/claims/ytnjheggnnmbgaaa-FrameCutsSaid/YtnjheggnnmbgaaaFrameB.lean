/-
  Walks: a load framed, by the code.
-/
import Derived.Test.YtnjheggnnmbgaaaFrameA
import Derived.Test.YtnjheggnnmbgaaaQuillD
namespace Go.Proofs.Ytnjheggnnmbgaaa
set_option linter.unusedVariables false
set_option linter.unusedSimpArgs false
open Go.RowKit

theorem str_mk {f : ByteArray} {l : List UInt8} (h : f.data.toList = l) : (⟨l.toArray⟩ : ByteArray) = f := by subst h; rfl
theorem quil_raw' (w : World) (B : Nat) (l m : List UInt8) (s : ByteArray) (hs : s.size ≤ 1000000) (hl : l.length ≤ 1000000) (hm : l ++ s.data.toList = m) (h : Quil w B l) :
    Calls Try.prog 16 #[.pointer (some ⟨B, 0, none⟩), .string s] w fun e w' =>
      e = .returned (.tuple #[]) ∧ Quil w' B m ∧ Wrote B w w' := by
  subst hm; exact quil_raw w B l s hs hl h
theorem quil_nat1' (w : World) (B L cap : Nat) (l m : List UInt8) (x : Int) (hx : Word x) (hl : l.length ≤ 100000) (hm : l ++ natB x.toNat = m) (h : Quil w B l)
    (hL : w.heap[L]? = some (.cells #[.int .u64 x] 45 (0, 0))) :
    Calls Try.prog 17 #[.pointer (some ⟨B, 0, none⟩), .slice (some ⟨L, 0, none⟩) 1 cap] w fun e w' =>
      e = .returned (.tuple #[]) ∧ Quil w' B m ∧ Wrote B w w' := by
  subst hm; exact quil_nat1 w B L cap l x hx hl h hL
theorem quil_text' (w : World) (B : Nat) (l : List UInt8) (f : ByteArray) (hf : f.data.toList = l) (h : Quil w B l) :
    Calls Try.prog 19 #[.pointer (some ⟨B, 0, none⟩)] w fun e w' =>
      e = .returned (.string f) ∧ w = w' := by
  rw [← str_mk hf]; exact quil_text w B l h
theorem low_is (n : Nat) (hn : n < 4294967296) (f : ByteArray) (hf : f.data.toList = le4 n) (w : World) :
    Calls Try.prog 18 #[.int .u32 n] w fun e w' => e = .returned (.string f) ∧ Below w.heap.size w w' := by
  rw [← str_mk hf]; exact low_any n hn w
theorem quil_call {w w' : World} {B : Nat} {l : List UInt8} (h : Quil w B l) (hb : Below w.heap.size w w') : Quil w' B l := by
  obtain ⟨v, h1, h2⟩ := h
  exact ⟨v, by rw [hb.block B (lt_of_block h1)]; exact h1, h2.kept (row := none) ⟨hb.os, hb.tape, hb.output, hb.size, fun i hi _ => hb.block i hi⟩ (by cases v.ownBlock <;> simp)⟩
theorem wrote_below {B : Nat} {a w w' : World} (h : Wrote B a w) (hb : Below w.heap.size w w') (hB : B ≤ w.heap.size) : Wrote B a w' :=
  ⟨h.below.trans (hb.mono hB), fun k cs t h1 h2 h3 => by
    have h4 := h.rest k cs t h1 h2 h3
    rw [hb.block k (lt_of_block h4)]; exact h4⟩

set_option maxRecDepth 100000 in
set_option maxHeartbeats 1000000 in
theorem close_any (b : UInt8) (k : Int) (hk : k = (b.toNat : Int)) (s f : ByteArray) (hs : s.size ≤ 262144) (hf : f.data.toList = frameB b s.data.toList) (w : World) :
    Calls Try.prog 10 #[.int .u8 k, .string s] w fun e w' => e = .returned (.tuple #[.string f, .int .i64 0]) ∧ Below w.heap.size w w' := by
  have q0 : ¬ (262144 : Int) < s.size := by omega
  have HF := Lib.hid hf
  have HK := Lib.hid hk
  have HW : Hid (Word (s.size : Int)) := Lib.hid ⟨by omega, by omega⟩
  have hq0 := Quil.new w
  obtain ⟨hd, ehd⟩ : ∃ hd : ByteArray, hd.data.toList = headB b s.data.toList := ⟨⟨(headB b s.data.toList).toArray⟩, rfl⟩
  obtain ⟨r, er⟩ : ∃ r, sumN hd.data.toList = r := ⟨_, rfl⟩
  have hr : r < 4294967296 := er ▸ sumN_lt _
  obtain ⟨lw, elw⟩ : ∃ lw : ByteArray, lw.data.toList = le4 r := ⟨⟨(le4 r).toArray⟩, rfl⟩
  have HHD := Lib.hid ehd
  have HR := Lib.hid er
  have HLW := Lib.hid elw
  have HN : Hid ((natB s.size).length ≤ 10) := Lib.hid (natB_len10 (by omega))
  have HHZ : Hid (hd.size ≤ 262200) := Lib.hid (by rw [Lib.size_eq, ehd]; unfold headB; have h1 := HN.out; rw [Lib.size_eq] at hs; rw [← Lib.size_eq]; simp only [List.length_append, List.length_cons, List.length_nil]; rw [← Lib.size_eq]; rw [← Lib.size_eq] at hs; omega)
  have HLZ : Hid (lw.size = 4) := Lib.hid (by rw [Lib.size_eq, elw]; rfl)
  have HSZ := Lib.hid hs
  have kz : k < 256 ∧ 0 ≤ k := by have := b.toNat_lt; omega
  obtain ⟨k1, k0⟩ := kz
  clear hf hk ehd er elw hs
  go_enter Try.func10, Try.ntmps10
  go_wp2_with fail
  refine (quil_raw' _ w.heap.size [] [79, 71, 1] _ (by decide) (by decide) rfl hq0).mono ?_
  rintro e w1 ⟨rfl, hq1, hw1⟩
  clear hq0
  have z1 := hq1.lt
  have hcv := bytes_text w1 [b] 1 #[.int .u8 k] rfl (by rw [HK.out]; rfl)
  go_wp2_with fail
  refine (quil_raw' _ _ _ [79, 71, 1, b] _ (by show 1 ≤ 1000000; decide) (by decide) rfl (hq1.alloc _)).mono ?_
  rintro e w2 ⟨rfl, hq2, hw2⟩
  have hw2' := (hw1.alloc z1 _).trans hw2
  clear hq1 hw1 hw2 z1 hcv
  have z2 := hq2.lt
  go_wp2_with fail
  refine (quil_nat1' _ w.heap.size w2.heap.size 1 [79, 71, 1, b] ([79, 71, 1, b] ++ natB s.size) (s.size : Int) HW.out (show 4 ≤ 100000 by decide) (by rw [Int.toNat_natCast]) (hq2.alloc _) (by simpa using heap_alloc_new _ _)).mono ?_
  rintro e w3 ⟨rfl, hq3, hw3⟩
  have hw3' := (hw2'.alloc z2 _).trans hw3
  clear hq2 hw2' hw3 z2
  go_wp2_with fail
  refine (quil_raw' _ w.heap.size _ hd.data.toList _ (by have := HSZ.out; omega) (by have := HN.out; simp; omega) (by rw [HHD.out]; unfold headB; rw [Lib.size_eq, List.append_assoc]) hq3).mono ?_
  rintro e w4 ⟨rfl, hq4, hw4⟩
  have hw4' := hw3'.trans hw4
  clear hq3 hw3' hw4
  go_wp2_with fail
  refine (quil_text' _ _ _ hd rfl hq4).mono ?_
  rintro e w' ⟨rfl, rfl⟩
  go_wp2_with fail
  refine (sum_any hd (by have := HHZ.out; omega) r HR.out _).mono ?_
  rintro e w' ⟨rfl, rfl⟩
  go_wp2_with fail
  refine (low_is r hr lw HLW.out _).mono ?_
  rintro e w5 ⟨rfl, hb5⟩
  have hq5 := quil_call hq4 hb5
  have hw5' := wrote_below hw4' hb5 (Nat.le_of_lt hq4.lt)
  clear hq4 hw4' hb5
  go_wp2_with fail
  refine (quil_raw' _ w.heap.size _ f.data.toList _ (by have := HLZ.out; omega) (by have := HHZ.out; rw [Lib.size_eq] at this; omega) (by rw [HF.out, HLW.out, ← HR.out, HHD.out]; rfl) hq5).mono ?_
  rintro e w6 ⟨rfl, hq6, hw6⟩
  have hw6' := hw5'.trans hw6
  clear hq5 hw5' hw6
  go_wp2_with fail
  refine (quil_text' _ _ _ f rfl hq6).mono ?_
  rintro e w' ⟨rfl, rfl⟩
  go_wp2_with fail
  go_ret2
  exact ⟨rfl, ((Below.refl _ _).alloc (Nat.le_refl _) _).trans hw6'.below⟩

set_option maxHeartbeats 400000 in
theorem close_long (k : Int) (s : ByteArray) (hs : 262144 < s.size) (w : World) :
    Calls Try.prog 10 #[.int .u8 k, .string s] w fun e w' => e = .returned (.tuple #[.string ⟨#[]⟩, .int .i64 3]) ∧ Below w.heap.size w w' := by
  have q0 : (262144 : Int) < s.size := by omega
  go_enter Try.func10, Try.ntmps10
  go_wp2_with fail
  go_ret2
  exact ⟨rfl, Below.refl _ _⟩
end Go.Proofs.Ytnjheggnnmbgaaa
