/-
  The law QuillWrites, walked.
-/
import Derived.Test.YtpnbhgnpofoeaaaQuillP
import Derived.Test.YtpnbhgnpofoeaaaQuillU
import Derived.Deep.RegionHeld3
import Derived.BigGuardPart
namespace Go.Proofs.Ytpnbhgnpofoeaaa
set_option linter.unusedVariables false
set_option linter.unusedSimpArgs false
open Go.RowKit

theorem nat_got {t : ByteArray} {n : Int} {r : List UInt8} (hn : Word n) (ht : t.data.toList = natB n.toNat ++ r) (hz : t.size ≤ 65536) :
    ∃ t2 : ByteArray, t2.data.toList = r ∧ ∀ (w : World) (B : Nat), Eye w B t false → Calls Try.prog 12 #[.pointer (some ⟨B, 0, none⟩), .int .u64 18446744073709551615] w fun e w' =>
      e = .returned (.int .u64 n) ∧ Eye w' B t2 false ∧ w.grownBy w' (some B) := by
  obtain ⟨G, V, S⟩ := eye_got (m := 18446744073709551615) (n := n.toNat) (by unfold Word at hn; omega) (by unfold Word at hn; omega) ht
  rw [show ((n.toNat : Nat) : Int) = n from by unfold Word at hn; omega] at V
  refine ⟨_, S, fun w B h => ?_⟩
  have C : Calls Try.prog 12 #[.pointer (some ⟨B, 0, none⟩), .int .u64 18446744073709551615] w fun e w' =>
      e = .returned (.int .u64 (nV t false 18446744073709551615)) ∧ Eye w' B (nS t false 18446744073709551615) (gone t false 18446744073709551615) ∧ w.grownBy w' (some B) :=
    eye_nat w B t false 18446744073709551615 ⟨by decide, by decide⟩ hz h
  rw [G, V] at C
  exact C
theorem int_got {t : ByteArray} {x : Int} {r : List UInt8} (hx : I64 x) (ht : t.data.toList = natB (zig x).toNat ++ r) (hz : t.size ≤ 65536) :
    ∃ t2 : ByteArray, t2.data.toList = r ∧ ∀ (w : World) (B : Nat), Eye w B t false → Calls Try.prog 13 #[.pointer (some ⟨B, 0, none⟩)] w fun e w' =>
      e = .returned (.int .i64 x) ∧ Eye w' B t2 false ∧ w.grownBy w' (some B) := by
  have hn := zig_word hx
  obtain ⟨G, V, S⟩ := eye_got (m := 18446744073709551615) (n := (zig x).toNat) (by unfold Word at hn; omega) (by unfold Word at hn; omega) ht
  rw [show (((zig x).toNat : Nat) : Int) = zig x from by unfold Word at hn; omega] at V
  refine ⟨_, S, fun w B h => ?_⟩
  have C := eye_int w B t false hz h
  rw [G, V, zag_zig] at C
  exact C
theorem raw_got {t s : ByteArray} {r : List UInt8} (ht : t.data.toList = s.data.toList ++ r) (hz : t.size ≤ 65536) :
    ∃ t2 : ByteArray, t2.data.toList = r ∧ ∀ (w : World) (B : Nat), Eye w B t false → Calls Try.prog 14 #[.pointer (some ⟨B, 0, none⟩), .int .i64 (s.size : Int)] w fun e w' =>
      e = .returned (.string s) ∧ Eye w' B t2 false ∧ w.grownBy w' (some B) := by
  have hl : s.size ≤ t.size := by rw [Lib.size_eq, Lib.size_eq, ht, List.length_append]; omega
  have G : rgone t false (s.size : Int) = false := by unfold rgone; simp; omega
  have V : rV t false (s.size : Int) = s := by
    unfold rV; rw [G]
    show t.extract 0 s.size = s
    have e : (t.extract 0 s.size).data.toList = s.data.toList := by
      rw [← Lib.toList_data, Lib.extract_toList, ht, List.drop_zero, Nat.sub_zero, Lib.size_eq, List.take_left]
    rw [str_eq e]
  have S : (rS t false (s.size : Int)).data.toList = r := by
    unfold rS; rw [G]
    show (t.extract s.size t.size).data.toList = r
    rw [ext_list, ht, Lib.size_eq, List.drop_left]
  refine ⟨_, S, fun w B h => ?_⟩
  have C := eye_raw w B t false (s.size : Int) hz h
  rw [G, V] at C
  exact C
theorem Eye.drew {w : World} {B : Nat} {s : ByteArray} {bad : Bool} (h : Eye w B s bad) : Eye w.drew B s bad := h.call (Below.refl _ _).drew
theorem Eye.alloc {w : World} {B : Nat} {s : ByteArray} {bad : Bool} (h : Eye w B s bad) (o : Obj) : Eye (w.alloc o) B s bad := h.call ((Below.refl _ _).alloc (Nat.le_refl _) _)
theorem lt_of_it {α : Type} {l : List α} {k : Nat} {b : α} (h : l[k]? = some b) : k < l.length := by
  rcases Nat.lt_or_ge k l.length with h' | h'
  · exact h'
  · rw [List.getElem?_eq_none h'] at h; cases h
theorem itemsB_cons {L : List ItemV} {k : Nat} {it : ItemV} (h : L[k]? = some it) : itemsB (L.drop k) = itemB it ++ itemsB (L.drop (k + 1)) := by
  have hk := lt_of_it h
  rw [List.drop_eq_getElem_cons hk]
  rw [List.getElem?_eq_getElem hk] at h
  rw [Option.some.inj h]
  unfold itemsB
  rw [List.flatMap_cons]

set_option maxRecDepth 1000000 in
set_option maxHeartbeats 2000000 in
theorem lwrites_fine (A : Option Addr) (cap : Nat) (L : List ItemV) (w : World) (h : Items w A L) (hg : greatB L = false) :
    Calls Try.prog 3 #[.slice A L.length cap] w fun e w' => e = .returned (.bool true) ∧ Below w.heap.size w w' := by
  have HI := Lib.hid h
  have t1 : tot L ≤ 4096 ∧ L.length ≤ 60 := by
    unfold greatB at hg; simp only [Bool.or_eq_false_iff, decide_eq_false_iff_not] at hg; omega
  have T1 := Lib.hid t1
  have hl := t1.2
  obtain ⟨r, hr⟩ : ∃ r : ByteArray, r.data.toList = itemsB L := ⟨⟨(itemsB L).toArray⟩, rfl⟩
  have rs : r.size ≤ 10000 := by
    rw [Lib.size_eq, hr]; have := itemsB_len HI.out.ok; omega
  have HR := Lib.hid hr
  have HG := Lib.hid hg
  clear hg hr t1
  go_enter Try.func3, Try.ntmps3
  go_wp2_with fail
  refine (lalive_any _).mono ?_
  rintro e w0 ⟨rfl, b0⟩
  have z0 := b0.size
  go_wp2_with fail
  refine (great_is _ A cap L false HG.out (HI.out.call b0) (by omega)).mono ?_
  rintro e w1 ⟨rfl, b1'⟩
  have b1 : Below w.heap.size w w1 := b0.trans (b1'.mono z0)
  have z1 := b1.size
  clear b1'
  go_wp2_with fail
  refine (put_str _ A cap L r HR.out (HI.out.call b1) (by omega) (by have := T1.out; omega)).mono ?_
  rintro e w2 ⟨rfl, b2'⟩
  have b2 : Below w.heap.size w w2 := b1.trans (b2'.mono z1)
  have z2 := b2.size
  clear b2'
  go_wp2_with fail
  refine (on_any _ _).mono ?_
  rintro e w3 ⟨rfl, e3, b3', y3⟩
  have b3 : Below w.heap.size w w3 := b2.trans (b3'.mono z2)
  have z3 := b3.size
  have Y3 := Lib.hid y3
  clear b3' y3
  generalize hE : w2.heap.size = E at *
  have HE := Lib.hid hE
  have zE : w.heap.size ≤ E := by omega
  clear hE z2
  go_wp2_with fail
  go_loopw [25] (fun i wr => ∃ (k : Nat) (t : ByteArray), k ≤ L.length ∧ i = .int .i64 k ∧ t.data.toList = itemsB (L.drop k) ∧ t.size ≤ 65536 ∧ Eye wr E t false ∧ Below w.heap.size w wr) (fun i _ => L.length - (intOf i).toNat)
  case atStart => exact ⟨0, r, Nat.zero_le _, rfl, HR.out, by omega, e3, b3⟩
  case round =>
    clear e3 b3 z3
    obtain ⟨k, t, hk, rfl, ht, htz, hey, hb⟩ := hrel
    by_cases hlt : k < L.length
    · have kk : (k : Int) < L.length := by omega
      have hxk : L[k]? = some L[k] := List.getElem?_eq_getElem hlt
      generalize hit : L[k] = it at *
      have hok := HI.out.ok it (List.mem_of_getElem? hxk)
      obtain ⟨b, off, rfl, hbl, c0, c1, c2, c3⟩ := (HI.out.call hb).at_ k it hxk
      rw [itemsB_cons hxk] at ht
      have HIT := Lib.hid hit
      have HTL := Lib.hid ht
      have hbs := hb.size
      have HOK := Lib.hid hok
      have hEl := hey.two.lt
      have HEY := Lib.hid hey
      clear hxk hit hok ht hey
      by_cases k0 : it.kind = 0
      · have q0 : (it.kind == 0) = true := by simpa using k0
        obtain ⟨t2, ht2, HC⟩ := nat_got (n := it.u) (r := itemsB (L.drop (k + 1))) HOK.out.u (by rw [HTL.out]; unfold itemB; rw [if_pos k0]) htz
        have HC' := Lib.hid HC
        have HT2 := Lib.hid ht2
        clear k0 HC ht2
        have ht2z : t2.size ≤ 65536 := by have h1 := HTL.out; have h2 := HT2.out; rw [Lib.size_eq] at htz ⊢; rw [h1, List.length_append] at htz; rw [h2]; omega
        have hEX : Eye (wr.alloc (.cells #[.int .i64 it.kind, .int .u64 it.u, .int .i64 it.x, .string it.s] 31)).drew E t false := (HEY.out.alloc _).drew
        have HEX := Lib.hid hEX
        have hbX := (hb.alloc hbs (.cells #[.int .i64 it.kind, .int .u64 it.u, .int .i64 it.x, .string it.s] 31)).drew
        have zX : w.heap.size ≤ (wr.alloc (.cells #[.int .i64 it.kind, .int .u64 it.u, .int .i64 it.x, .string it.s] 31)).drew.heap.size := hbX.size
        have HBX := Lib.hid hbX
        have HZX := Lib.hid zX
        clear hEX hbX zX hb
        go_wp2_with fail
        go_region_held3 (fun w' => w'.cell? ⟨wr.heap.size, 1, none⟩ = some (.int .u64 it.u))
          ((first | (go_simp; done) | exact gA.cell (by go_simp) (by simp; omega)))
          ((go_at_call 12; refine (HC'.out _ _ HEX.out).mono ?_; rintro e wA ⟨rfl, eA, gA⟩))
        have bA : Below w.heap.size w wA := below_eye HBX.out gA zE HZX.out
        clear gA
        go_wp2_with fail
        go_roundw
        case rel => exact ⟨k + 1, t2, by omega, by go_num, HT2.out, by omega, eA, bA⟩
        case measure => simp [intOf]; omega
      · have q0 : (it.kind == 0) = false := by simpa using k0
        by_cases k1 : it.kind = 1
        · have q1 : (it.kind == 1) = true := by simpa using k1
          obtain ⟨t2, ht2, HC⟩ := int_got (x := it.x) (r := itemsB (L.drop (k + 1))) HOK.out.x (by rw [HTL.out]; unfold itemB; rw [if_neg k0, if_pos k1]) htz
          have HC' := Lib.hid HC
          have HT2 := Lib.hid ht2
          clear k0 k1 HC ht2
          have ht2z : t2.size ≤ 65536 := by have h1 := HTL.out; have h2 := HT2.out; rw [Lib.size_eq] at htz ⊢; rw [h1, List.length_append] at htz; rw [h2]; omega
          have hEX : Eye (wr.alloc (.cells #[.int .i64 it.kind, .int .u64 it.u, .int .i64 it.x, .string it.s] 31)).drew E t false := (HEY.out.alloc _).drew
          have HEX := Lib.hid hEX
          have hbX := (hb.alloc hbs (.cells #[.int .i64 it.kind, .int .u64 it.u, .int .i64 it.x, .string it.s] 31)).drew
          have zX : w.heap.size ≤ (wr.alloc (.cells #[.int .i64 it.kind, .int .u64 it.u, .int .i64 it.x, .string it.s] 31)).drew.heap.size := hbX.size
          have HBX := Lib.hid hbX
          have HZX := Lib.hid zX
          clear hEX hbX zX hb
          go_wp2_with fail
          go_region_held3 (fun w' => w'.cell? ⟨wr.heap.size, 2, none⟩ = some (.int .i64 it.x))
            ((first | (go_simp; done) | exact gA.cell (by go_simp) (by simp; omega)))
            ((go_at_call 13; refine (HC'.out _ _ HEX.out).mono ?_; rintro e wA ⟨rfl, eA, gA⟩))
          have bA : Below w.heap.size w wA := below_eye HBX.out gA zE HZX.out
          clear gA
          go_wp2_with fail
          go_roundw
          case rel => exact ⟨k + 1, t2, by omega, by go_num, HT2.out, by omega, eA, bA⟩
          case measure => simp [intOf]; omega
        · have q1 : (it.kind == 1) = false := by simpa using k1
          by_cases k2 : it.kind = 2
          · have q2 : (it.kind == 2) = true := by simpa using k2
            obtain ⟨t2, ht2, HC⟩ := raw_got (s := it.s) (r := itemsB (L.drop (k + 1))) (by rw [HTL.out]; unfold itemB; rw [if_neg k0, if_neg k1, if_pos k2]) htz
            have HC' := Lib.hid HC
            have HT2 := Lib.hid ht2
            clear k0 k1 k2 HC ht2
            have ht2z : t2.size ≤ 65536 := by have h1 := HTL.out; have h2 := HT2.out; rw [Lib.size_eq] at htz ⊢; rw [h1, List.length_append] at htz; rw [h2]; omega
            have hEX : Eye (wr.alloc (.cells #[.int .i64 it.kind, .int .u64 it.u, .int .i64 it.x, .string it.s] 31)).drew E t false := (HEY.out.alloc _).drew
            have HEX := Lib.hid hEX
            have hbX := (hb.alloc hbs (.cells #[.int .i64 it.kind, .int .u64 it.u, .int .i64 it.x, .string it.s] 31)).drew
            have zX : w.heap.size ≤ (wr.alloc (.cells #[.int .i64 it.kind, .int .u64 it.u, .int .i64 it.x, .string it.s] 31)).drew.heap.size := hbX.size
            have HBX := Lib.hid hbX
            have HZX := Lib.hid zX
            clear hEX hbX zX hb
            go_wp2_with fail
            go_region_held3 (fun w' => w'.cell? ⟨wr.heap.size, 3, none⟩ = some (.string it.s))
              ((first | (go_simp; done) | exact gA.cell (by go_simp) (by simp; omega)))
              ((go_at_call 14; refine (HC'.out _ _ HEX.out).mono ?_; rintro e wA ⟨rfl, eA, gA⟩))
            have bA : Below w.heap.size w wA := below_eye HBX.out gA zE HZX.out
            clear gA
            go_wp2_with fail
            go_roundw
            case rel => exact ⟨k + 1, t2, by omega, by go_num, HT2.out, by omega, eA, bA⟩
            case measure => simp [intOf]; omega
          · have q2 : (it.kind == 2) = false := by simpa using k2
            have HT2 : Hid (t.data.toList = itemsB (L.drop (k + 1))) := Lib.hid (by rw [HTL.out]; unfold itemB; rw [if_neg k0, if_neg k1, if_neg k2]; rfl)
            clear k0 k1 k2
            go_wp2_with fail
            go_roundw
            case rel => exact ⟨k + 1, t, by omega, by go_num, HT2.out, htz, HEY.out.alloc _, hb.alloc hbs _⟩
            case measure => simp [intOf]; omega
    · obtain rfl : k = L.length := by omega
      have hnil : t.data.toList = [] := by rw [ht, List.drop_length]; rfl
      have HN := Lib.hid hnil
      have HO : Hid ((!false && t.toList.isEmpty) = true) := Lib.hid (by rw [Lib.toList_data, hnil]; rfl)
      have HS : Hid ((t.size : Int) = 0) := Lib.hid (by rw [Lib.size_eq, hnil]; rfl)
      have kk : ¬ (L.length : Int) < L.length := by omega
      clear ht hnil
      go_wp2_with fail
      refine (over_is _ _ _ _ true hey HO.out).mono ?_
      rintro e w' ⟨rfl, rfl⟩
      go_wp2_with fail
      refine (bad_any _ _ _ _ hey).mono ?_
      rintro e w' ⟨rfl, rfl⟩
      go_wp2_with fail
      refine (left_is _ _ _ _ 0 hey HS.out).mono ?_
      rintro e w' ⟨rfl, rfl⟩
      go_wp2_with fail
      go_ret
      exact ⟨rfl, hb⟩

set_option maxHeartbeats 1000000 in
theorem lwrites_great (A : Option Addr) (cap : Nat) (L : List ItemV) (w : World) (h : Items w A L) (hl : L.length ≤ 140737488351232) (hg : greatB L = true) :
    Calls Try.prog 3 #[.slice A L.length cap] w fun e w' => e = .returned (.bool true) ∧ Below w.heap.size w w' := by
  have HI := Lib.hid h
  have HG := Lib.hid hg
  clear hg
  go_enter Try.func3, Try.ntmps3
  go_wp2_with fail
  refine (lalive_any _).mono ?_
  rintro e w0 ⟨rfl, b0⟩
  have z0 := b0.size
  go_wp2_with fail
  refine (great_is _ A cap L true HG.out (HI.out.call b0) hl).mono ?_
  rintro e w1 ⟨rfl, b1'⟩
  have b1 : Below w.heap.size w w1 := b0.trans (b1'.mono z0)
  go_wp2_with fail
  go_ret
  exact ⟨rfl, b1⟩

theorem lwrites_of {w0 : World} (A : Option Addr) (cap : Nat) (L : List ItemV) (h : Items w0 A L) (hA : A = none → cap = 0) (hl : L.length ≤ 140737488351232) (w : World) (e : w = w0 := by rfl) :
    Calls Try.prog 3 #[.slice A L.length cap] w fun e w' => e = .returned (.bool true) ∧ Below w.heap.size w w' := by
  subst e
  cases hg : greatB L
  · exact lwrites_fine A cap L _ h hg
  · exact lwrites_great A cap L _ h hl hg
end Go.Proofs.Ytpnbhgnpofoeaaa
