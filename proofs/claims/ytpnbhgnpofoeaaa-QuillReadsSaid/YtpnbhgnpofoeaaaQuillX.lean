/-
  The law QuillReads, walked.
-/
import Derived.Test.YtpnbhgnpofoeaaaQuillV
namespace Go.Proofs.Ytpnbhgnpofoeaaa
set_option linter.unusedVariables false
set_option linter.unusedSimpArgs false
open Go.RowKit

theorem zag_zero : zag 0 = 0 := rfl
theorem small_size {s : ByteArray} {z : Nat} (hs : s.size ≤ 4096) : (s.extract z s.size).size ≤ 4096 := by rw [ext_size]; omega

set_option maxRecDepth 1000000 in
set_option maxHeartbeats 40000000 in
theorem lreads_fine (s0 : ByteArray) (A : Option Addr) (cap : Nat) (L : List AskV) (w : World) (h : Asks w A L) (hl : L.length ≤ 60) (hs0 : s0.size ≤ 4096) :
    Calls Try.prog 4 #[.string s0, .slice A L.length cap] w fun e w' => e = .returned (.bool true) ∧ Below w.heap.size w w' := by
  have HI := Lib.hid h
  have i1 : ¬ (60 : Int) < L.length := by omega
  have i2 : ¬ (4096 : Int) < s0.size := by omega
  go_enter Try.func4, Try.ntmps4
  go_wp2_with fail
  refine (lalive_any _).mono ?_
  rintro e w0 ⟨rfl, b0⟩
  have z0 := b0.size
  go_wp2_with fail
  refine (on_any _ _).mono ?_
  rintro e w3 ⟨rfl, e3, b3', y3⟩
  have b3 : Below w.heap.size w w3 := b0.trans (b3'.mono z0)
  have z3 := b3.size
  clear b3' y3
  generalize hE : w0.heap.size = E at *
  have HE := Lib.hid hE
  have zE : w.heap.size ≤ E := by omega
  clear hE z0 b0
  go_wp2_with fail
  go_loopw [0, 6, 30] (fun sv bv i wr => ∃ (k : Nat) (s : ByteArray) (bad : Bool), k ≤ L.length ∧ i = .int .i64 k ∧ sv = .string s ∧ bv = .bool bad ∧ s.size ≤ 4096 ∧ Eye wr E s bad ∧ Below w.heap.size w wr) (fun _ _ i _ => L.length - (intOf i).toNat)
  case atStart => exact ⟨0, s0, false, Nat.zero_le _, rfl, rfl, rfl, hs0, e3, b3⟩
  case round =>
    clear e3 b3 z3
    obtain ⟨k, s, bad, hk, rfl, rfl, rfl, hs, hey, hb⟩ := hrel
    by_cases hlt : k < L.length
    · have kk : (k : Int) < L.length := by omega
      have hxk : L[k]? = some L[k] := List.getElem?_eq_getElem hlt
      generalize hit : L[k] = it at *
      have hok := HI.out.ok it (List.mem_of_getElem? hxk)
      obtain ⟨b, off, rfl, hbl, c0, c1, c2⟩ := (HI.out.call hb).at_ k it hxk
      have HIT := Lib.hid hit
      have hbs := hb.size
      have HOK := Lib.hid hok
      have hEl := hey.two.lt
      have HEY := Lib.hid hey
      have HB := Lib.hid hb
      have u0 := hok.u.1
      have u1 := hok.u.2
      have n0 := hok.n.1
      have n1 := hok.n.2
      have HBX := Lib.hid (HB.out.alloc hbs (.cells #[.int .i64 it.kind, .int .u64 it.u, .int .i64 it.n] 38))
      have HEX := Lib.hid (HEY.out.alloc (.cells #[.int .i64 it.kind, .int .u64 it.u, .int .i64 it.n] 38))
      have HBB := Lib.hid (Box3.new wr it 38)
      have HNE := Lib.hid hey.non
      have HS := Lib.hid hs
      clear hxk hit hok hey hb
      by_cases k0 : it.kind = 0
      · have T0 := True.intro
        have q0 : (it.kind == 0) = true := by rw [k0]; rfl
        have q1 : (it.kind == 1) = false := by rw [k0]; rfl
        have q2 : (it.kind == 2) = false := by rw [k0]; rfl
        have q3 : (it.kind == 3) = false := by rw [k0]; rfl
        have q4 : (it.kind == 4) = false := by rw [k0]; rfl
        clear k0
        obtain ⟨a, z, haz⟩ : ∃ a z, takS s.data.toList it.u.toNat = (a, z) := ⟨_, _, rfl⟩
        have HTK := Lib.hid (taken_does HOK.out.u (by omega) haz)
        have HD := Lib.hid (nat_does (s := s) (bad := bad) HOK.out.u (by omega))
        rcases num_ways s bad _ a z haz HNE.out with ⟨rfl, V, S, G⟩ | ⟨rfl, hz, ha, V, S, G⟩ | ⟨rfl, hz, hzs, ham, ha, V, S, G⟩
        · as_aux_lemma =>
          obtain rfl : s = ⟨#[]⟩ := HNE.out rfl
          have D := HD.out
          rw [V, S, G] at D
          have HD' := Lib.hid D
          clear D HD
          clear V S G haz
          go_wp2_with fail
          refine (HTK.out _).mono ?_
          rintro e w1 ⟨rfl, b1'⟩
          have HB1 := Lib.hid (HBX.out.trans (b1'.mono HBX.out.size))
          have HE1 := Lib.hid (HEX.out.call b1')
          obtain ⟨d0, d1, d2⟩ := HBB.out.call b1'
          clear b1' c0 c1 c2
          go_wp2_with fail
          refine (HD'.out _ _ HE1.out).mono ?_
          rintro e w2 ⟨rfl, e2, g2⟩
          have HB2 := Lib.hid (below_eye HB1.out g2 zE HB1.out.size)
          clear g2 d0 d1 d2
          go_wp2_with fail
          refine (bad_any _ _ _ _ e2).mono ?_
          rintro e w' ⟨rfl, rfl⟩
          go_wp2_with fail
          refine (left_is _ _ _ _ 0 e2 rfl).mono ?_
          rintro e w' ⟨rfl, rfl⟩
          go_wp2_with fail
          refine (over_is _ _ _ _ false e2 rfl).mono ?_
          rintro e w' ⟨rfl, rfl⟩
          go_wp2_with fail
          go_roundw
          case rel => exact ⟨k + 1, ⟨#[]⟩, true, by omega, by go_num, rfl, rfl, Nat.zero_le _, e2, HB2.out⟩
          case measure => simp [intOf]; omega
        · as_aux_lemma =>
          have D := HD.out
          rw [V, S, G] at D
          have HD' := Lib.hid D
          clear D HD
          have r1 : ((z : Int) == 0) = true := by simpa using hz
          clear V S G hz ha haz
          go_wp2_with fail
          refine (HTK.out _).mono ?_
          rintro e w1 ⟨rfl, b1'⟩
          have HB1 := Lib.hid (HBX.out.trans (b1'.mono HBX.out.size))
          have HE1 := Lib.hid (HEX.out.call b1')
          obtain ⟨d0, d1, d2⟩ := HBB.out.call b1'
          clear b1' c0 c1 c2
          go_wp2_with fail
          refine (HD'.out _ _ HE1.out).mono ?_
          rintro e w2 ⟨rfl, e2, g2⟩
          have HB2 := Lib.hid (below_eye HB1.out g2 zE HB1.out.size)
          clear g2 d0 d1 d2
          go_wp2_with fail
          refine (bad_any _ _ _ _ e2).mono ?_
          rintro e w' ⟨rfl, rfl⟩
          go_wp2_with fail
          refine (left_is _ _ _ _ 0 e2 rfl).mono ?_
          rintro e w' ⟨rfl, rfl⟩
          go_wp2_with fail
          refine (over_is _ _ _ _ false e2 rfl).mono ?_
          rintro e w' ⟨rfl, rfl⟩
          go_wp2_with fail
          go_roundw
          case rel => exact ⟨k + 1, ⟨#[]⟩, true, by omega, by go_num, rfl, rfl, Nat.zero_le _, e2, HB2.out⟩
          case measure => simp [intOf]; omega
        · as_aux_lemma =>
          have D := HD.out
          rw [V, S, G] at D
          have HD' := Lib.hid D
          clear D HD
          have r1 : ((z : Int) == 0) = false := by simpa using hz
          have r2 : (z : Int) ≤ s.size := by omega
          have r3 : (0 : Int) ≤ z := by omega
          clear V S G hz ha ham haz
          go_wp2_with fail
          refine (HTK.out _).mono ?_
          rintro e w1 ⟨rfl, b1'⟩
          have HB1 := Lib.hid (HBX.out.trans (b1'.mono HBX.out.size))
          have HE1 := Lib.hid (HEX.out.call b1')
          obtain ⟨d0, d1, d2⟩ := HBB.out.call b1'
          clear b1' c0 c1 c2
          go_wp2_with fail
          refine (HD'.out _ _ HE1.out).mono ?_
          rintro e w2 ⟨rfl, e2, g2⟩
          have HB2 := Lib.hid (below_eye HB1.out g2 zE HB1.out.size)
          clear g2 d0 d1 d2
          go_wp2_with fail
          refine (bad_any _ _ _ _ e2).mono ?_
          rintro e w' ⟨rfl, rfl⟩
          go_wp2_with fail
          refine (left_any _ _ _ _ e2).mono ?_
          rintro e w' ⟨rfl, rfl⟩
          go_wp2_with fail
          refine (over_any _ _ _ _ e2).mono ?_
          rintro e w' ⟨rfl, rfl⟩
          go_wp2_with fail
          go_roundw
          case rel => exact ⟨k + 1, s.extract z s.size, false, by omega, by go_num, rfl, rfl, small_size HS.out, e2, HB2.out⟩
          case measure => simp [intOf]; omega
      by_cases k1 : it.kind = 1
      · have T0 := True.intro
        clear k0
        have q0 : (it.kind == 0) = false := by rw [k1]; rfl
        have q1 : (it.kind == 1) = true := by rw [k1]; rfl
        have q2 : (it.kind == 2) = false := by rw [k1]; rfl
        have q3 : (it.kind == 3) = false := by rw [k1]; rfl
        have q4 : (it.kind == 4) = false := by rw [k1]; rfl
        clear k1
        obtain ⟨a, z, haz⟩ : ∃ a z, takS s.data.toList 18446744073709551615 = (a, z) := ⟨_, _, rfl⟩
        have HTK := Lib.hid (taken_does (most := 18446744073709551615) ⟨by decide, by decide⟩ (by omega) haz)
        have HD := Lib.hid (int_does (s := s) (bad := bad) (by omega))
        rcases num_ways s bad _ a z haz HNE.out with ⟨rfl, V, S, G⟩ | ⟨rfl, hz, ha, V, S, G⟩ | ⟨rfl, hz, hzs, ham, ha, V, S, G⟩
        · as_aux_lemma =>
          obtain rfl : s = ⟨#[]⟩ := HNE.out rfl
          have D := HD.out
          rw [V, zag_zero, S, G] at D
          have HD' := Lib.hid D
          clear D HD
          clear V S G haz
          go_wp2_with fail
          refine (HTK.out _).mono ?_
          rintro e w1 ⟨rfl, b1'⟩
          have HB1 := Lib.hid (HBX.out.trans (b1'.mono HBX.out.size))
          have HE1 := Lib.hid (HEX.out.call b1')
          obtain ⟨d0, d1, d2⟩ := HBB.out.call b1'
          clear b1' c0 c1 c2
          go_wp2_with fail
          refine (HD'.out _ _ HE1.out).mono ?_
          rintro e w2 ⟨rfl, e2, g2⟩
          have HB2 := Lib.hid (below_eye HB1.out g2 zE HB1.out.size)
          clear g2 d0 d1 d2
          go_wp2_with fail
          refine (bad_any _ _ _ _ e2).mono ?_
          rintro e w' ⟨rfl, rfl⟩
          go_wp2_with fail
          refine (left_is _ _ _ _ 0 e2 rfl).mono ?_
          rintro e w' ⟨rfl, rfl⟩
          go_wp2_with fail
          refine (over_is _ _ _ _ false e2 rfl).mono ?_
          rintro e w' ⟨rfl, rfl⟩
          go_wp2_with fail
          go_roundw
          case rel => exact ⟨k + 1, ⟨#[]⟩, true, by omega, by go_num, rfl, rfl, Nat.zero_le _, e2, HB2.out⟩
          case measure => simp [intOf]; omega
        · as_aux_lemma =>
          have D := HD.out
          rw [V, zag_zero, S, G] at D
          have HD' := Lib.hid D
          clear D HD
          have r1 : ((z : Int) == 0) = true := by simpa using hz
          clear V S G hz ha haz
          go_wp2_with fail
          refine (HTK.out _).mono ?_
          rintro e w1 ⟨rfl, b1'⟩
          have HB1 := Lib.hid (HBX.out.trans (b1'.mono HBX.out.size))
          have HE1 := Lib.hid (HEX.out.call b1')
          obtain ⟨d0, d1, d2⟩ := HBB.out.call b1'
          clear b1' c0 c1 c2
          go_wp2_with fail
          refine (HD'.out _ _ HE1.out).mono ?_
          rintro e w2 ⟨rfl, e2, g2⟩
          have HB2 := Lib.hid (below_eye HB1.out g2 zE HB1.out.size)
          clear g2 d0 d1 d2
          go_wp2_with fail
          refine (bad_any _ _ _ _ e2).mono ?_
          rintro e w' ⟨rfl, rfl⟩
          go_wp2_with fail
          refine (left_is _ _ _ _ 0 e2 rfl).mono ?_
          rintro e w' ⟨rfl, rfl⟩
          go_wp2_with fail
          refine (over_is _ _ _ _ false e2 rfl).mono ?_
          rintro e w' ⟨rfl, rfl⟩
          go_wp2_with fail
          go_roundw
          case rel => exact ⟨k + 1, ⟨#[]⟩, true, by omega, by go_num, rfl, rfl, Nat.zero_le _, e2, HB2.out⟩
          case measure => simp [intOf]; omega
        · as_aux_lemma =>
          have D := HD.out
          rw [V, S, G] at D
          have HD' := Lib.hid D
          clear D HD
          have r1 : ((z : Int) == 0) = false := by simpa using hz
          have r2 : (z : Int) ≤ s.size := by omega
          have r3 : (0 : Int) ≤ z := by omega
          have HAW : Hid (Word (a : Int)) := Lib.hid ⟨by omega, by omega⟩
          have HZI := Lib.hid (zag_i64 HAW.out)
          obtain ⟨r, hr⟩ : ∃ r : ByteArray, r.data.toList = natB (a : Int).toNat := ⟨⟨(natB (a : Int).toNat).toArray⟩, rfl⟩
          have HRA := Lib.hid hr
          have HRZ : Hid (r.data.toList = natB (zig (zag (a : Int))).toNat) := Lib.hid (by rw [zig_zag HAW.out]; exact hr)
          clear V S G hz ha ham haz hr
          go_wp2_with fail
          refine (HTK.out _).mono ?_
          rintro e w1 ⟨rfl, b1'⟩
          have HB1 := Lib.hid (HBX.out.trans (b1'.mono HBX.out.size))
          have HE1 := Lib.hid (HEX.out.call b1')
          obtain ⟨d0, d1, d2⟩ := HBB.out.call b1'
          clear b1' c0 c1 c2
          go_wp2_with fail
          refine (HD'.out _ _ HE1.out).mono ?_
          rintro e w2 ⟨rfl, e2, g2⟩
          have HB2 := Lib.hid (below_eye HB1.out g2 zE HB1.out.size)
          clear g2 d0 d1 d2
          go_wp2_with fail
          refine (rint_str _ HZI.out r HRZ.out _).mono ?_
          rintro e w3 ⟨rfl, b3'⟩
          have e3 := e2.call b3'
          have HB3 := Lib.hid (HB2.out.trans (b3'.mono HB2.out.size))
          clear b3' e2
          go_wp2_with fail
          refine (rnat_str _ HAW.out r HRA.out _).mono ?_
          rintro e w4 ⟨rfl, b4'⟩
          have e2 := e3.call b4'
          have HB4 := Lib.hid (HB3.out.trans (b4'.mono HB3.out.size))
          clear b4' e3
          go_wp2_with fail
          refine (bad_any _ _ _ _ e2).mono ?_
          rintro e w' ⟨rfl, rfl⟩
          go_wp2_with fail
          refine (left_any _ _ _ _ e2).mono ?_
          rintro e w' ⟨rfl, rfl⟩
          go_wp2_with fail
          refine (over_any _ _ _ _ e2).mono ?_
          rintro e w' ⟨rfl, rfl⟩
          go_wp2_with fail
          go_roundw
          case rel => exact ⟨k + 1, s.extract z s.size, false, by omega, by go_num, rfl, rfl, small_size HS.out, e2, HB4.out⟩
          case measure => simp [intOf]; omega
      by_cases k2 : it.kind = 2
      · have T0 := True.intro
        clear k0 k1
        have q0 : (it.kind == 0) = false := by rw [k2]; rfl
        have q1 : (it.kind == 1) = false := by rw [k2]; rfl
        have q2 : (it.kind == 2) = true := by rw [k2]; rfl
        have q3 : (it.kind == 3) = false := by rw [k2]; rfl
        have q4 : (it.kind == 4) = false := by rw [k2]; rfl
        clear k2
        obtain ⟨a, z, haz⟩ : ∃ a z, takS s.data.toList 18446744073709551615 = (a, z) := ⟨_, _, rfl⟩
        have HTK := Lib.hid (taken_does (most := 18446744073709551615) ⟨by decide, by decide⟩ (by omega) haz)
        have HD := Lib.hid (raw_does (s := s) (bad := bad) (n := it.n) (by omega))
        clear haz
        cases bad
        · by_cases hn : it.n < 0
          · as_aux_lemma =>
            have G : rgone s false it.n = true := by unfold rgone; simp [hn]
            have V : rV s false it.n = ⟨#[]⟩ := by unfold rV; rw [G]; rfl
            have S : rS s false it.n = ⟨#[]⟩ := by unfold rS; rw [G]; rfl
            have D := HD.out
            rw [V, S, G] at D
            have HD' := Lib.hid D
            clear D HD
            clear V S G
            go_wp2_with fail
            refine (HTK.out _).mono ?_
            rintro e w1 ⟨rfl, b1'⟩
            have HB1 := Lib.hid (HBX.out.trans (b1'.mono HBX.out.size))
            have HE1 := Lib.hid (HEX.out.call b1')
            obtain ⟨d0, d1, d2⟩ := HBB.out.call b1'
            clear b1' c0 c1 c2
            go_wp2_with fail
            refine (HD'.out _ _ HE1.out).mono ?_
            rintro e w2 ⟨rfl, e2, g2⟩
            have HB2 := Lib.hid (below_eye HB1.out g2 zE HB1.out.size)
            clear g2 d0 d1 d2
            go_wp2_with fail
            refine (bad_any _ _ _ _ e2).mono ?_
            rintro e w' ⟨rfl, rfl⟩
            go_wp2_with fail
            refine (left_is _ _ _ _ 0 e2 rfl).mono ?_
            rintro e w' ⟨rfl, rfl⟩
            go_wp2_with fail
            refine (over_is _ _ _ _ false e2 rfl).mono ?_
            rintro e w' ⟨rfl, rfl⟩
            go_wp2_with fail
            go_roundw
            case rel => exact ⟨k + 1, ⟨#[]⟩, true, by omega, by go_num, rfl, rfl, Nat.zero_le _, e2, HB2.out⟩
            case measure => simp [intOf]; omega
          · by_cases hn2 : (s.size : Int) < it.n
            · as_aux_lemma =>
              have G : rgone s false it.n = true := by unfold rgone; simp [hn2]
              have V : rV s false it.n = ⟨#[]⟩ := by unfold rV; rw [G]; rfl
              have S : rS s false it.n = ⟨#[]⟩ := by unfold rS; rw [G]; rfl
              have D := HD.out
              rw [V, S, G] at D
              have HD' := Lib.hid D
              clear D HD
              clear V S G
              go_wp2_with fail
              refine (HTK.out _).mono ?_
              rintro e w1 ⟨rfl, b1'⟩
              have HB1 := Lib.hid (HBX.out.trans (b1'.mono HBX.out.size))
              have HE1 := Lib.hid (HEX.out.call b1')
              obtain ⟨d0, d1, d2⟩ := HBB.out.call b1'
              clear b1' c0 c1 c2
              go_wp2_with fail
              refine (HD'.out _ _ HE1.out).mono ?_
              rintro e w2 ⟨rfl, e2, g2⟩
              have HB2 := Lib.hid (below_eye HB1.out g2 zE HB1.out.size)
              clear g2 d0 d1 d2
              go_wp2_with fail
              refine (bad_any _ _ _ _ e2).mono ?_
              rintro e w' ⟨rfl, rfl⟩
              go_wp2_with fail
              refine (left_is _ _ _ _ 0 e2 rfl).mono ?_
              rintro e w' ⟨rfl, rfl⟩
              go_wp2_with fail
              refine (over_is _ _ _ _ false e2 rfl).mono ?_
              rintro e w' ⟨rfl, rfl⟩
              go_wp2_with fail
              go_roundw
              case rel => exact ⟨k + 1, ⟨#[]⟩, true, by omega, by go_num, rfl, rfl, Nat.zero_le _, e2, HB2.out⟩
              case measure => simp [intOf]; omega
            · as_aux_lemma =>
              have G : rgone s false it.n = false := by unfold rgone; simp; omega
              have V : rV s false it.n = s.extract 0 it.n.toNat := by unfold rV; rw [G]; rfl
              have S : rS s false it.n = s.extract it.n.toNat s.size := by unfold rS; rw [G]; rfl
              have r2 : it.n ≤ s.size := by omega
              have r3 : 0 ≤ it.n := by omega
              have r4 : decide ((s.size : Int) < it.n) = false := decide_eq_false (by omega)
              have D := HD.out
              rw [V, S, G] at D
              have HD' := Lib.hid D
              clear D HD
              clear V S G hn hn2
              go_wp2_with fail
              refine (HTK.out _).mono ?_
              rintro e w1 ⟨rfl, b1'⟩
              have HB1 := Lib.hid (HBX.out.trans (b1'.mono HBX.out.size))
              have HE1 := Lib.hid (HEX.out.call b1')
              obtain ⟨d0, d1, d2⟩ := HBB.out.call b1'
              clear b1' c0 c1 c2
              go_wp2_with fail
              refine (HD'.out _ _ HE1.out).mono ?_
              rintro e w2 ⟨rfl, e2, g2⟩
              have HB2 := Lib.hid (below_eye HB1.out g2 zE HB1.out.size)
              clear g2 d0 d1 d2
              go_wp2_with fail
              refine (bad_any _ _ _ _ e2).mono ?_
              rintro e w' ⟨rfl, rfl⟩
              go_wp2_with fail
              refine (left_any _ _ _ _ e2).mono ?_
              rintro e w' ⟨rfl, rfl⟩
              go_wp2_with fail
              refine (over_any _ _ _ _ e2).mono ?_
              rintro e w' ⟨rfl, rfl⟩
              go_wp2_with fail
              go_roundw
              case rel => exact ⟨k + 1, s.extract it.n.toNat s.size, false, by omega, by go_num, rfl, (by first | rfl | rw [decide_eq_false (by omega)]), small_size HS.out, e2, HB2.out⟩
              case measure => simp [intOf]; omega
        · as_aux_lemma =>
          have HSE := Lib.hid (HNE.out rfl)
          have G : rgone s true it.n = true := by rfl
          have V : rV s true it.n = ⟨#[]⟩ := by unfold rV; rw [G]; rfl
          have S : rS s true it.n = ⟨#[]⟩ := by unfold rS; rw [G]; rfl
          have D := HD.out
          rw [V, S, G] at D
          have HD' := Lib.hid D
          clear D HD
          clear V S G
          obtain rfl : s = ⟨#[]⟩ := HSE.out
          go_wp2_with fail
          refine (HTK.out _).mono ?_
          rintro e w1 ⟨rfl, b1'⟩
          have HB1 := Lib.hid (HBX.out.trans (b1'.mono HBX.out.size))
          have HE1 := Lib.hid (HEX.out.call b1')
          obtain ⟨d0, d1, d2⟩ := HBB.out.call b1'
          clear b1' c0 c1 c2
          go_wp2_with fail
          refine (HD'.out _ _ HE1.out).mono ?_
          rintro e w2 ⟨rfl, e2, g2⟩
          have HB2 := Lib.hid (below_eye HB1.out g2 zE HB1.out.size)
          clear g2 d0 d1 d2
          go_wp2_with fail
          refine (bad_any _ _ _ _ e2).mono ?_
          rintro e w' ⟨rfl, rfl⟩
          go_wp2_with fail
          refine (left_is _ _ _ _ 0 e2 rfl).mono ?_
          rintro e w' ⟨rfl, rfl⟩
          go_wp2_with fail
          refine (over_is _ _ _ _ false e2 rfl).mono ?_
          rintro e w' ⟨rfl, rfl⟩
          go_wp2_with fail
          go_roundw
          case rel => exact ⟨k + 1, ⟨#[]⟩, true, by omega, by go_num, rfl, rfl, Nat.zero_le _, e2, HB2.out⟩
          case measure => simp [intOf]; omega
      by_cases k3 : it.kind = 3
      · have T0 := True.intro
        clear k0 k1 k2
        have q0 : (it.kind == 0) = false := by rw [k3]; rfl
        have q1 : (it.kind == 1) = false := by rw [k3]; rfl
        have q2 : (it.kind == 2) = false := by rw [k3]; rfl
        have q3 : (it.kind == 3) = true := by rw [k3]; rfl
        have q4 : (it.kind == 4) = false := by rw [k3]; rfl
        clear k3
        obtain ⟨a, z, haz⟩ : ∃ a z, takS s.data.toList (sm it.n) = (a, z) := ⟨_, _, rfl⟩
        have HD := Lib.hid (small_does (s := s) (bad := bad) HOK.out.n (by omega))
        by_cases hn : it.n < 0
        · have hz0 : sm it.n = 0 := by unfold sm; omega
          have haz' := haz
          rw [hz0] at haz'
          have HTK := Lib.hid (taken_does (most := 0) ⟨by decide, by decide⟩ (by omega) haz')
          clear haz' 
          rcases num_ways s bad _ a z haz HNE.out with ⟨rfl, V, S, G⟩ | ⟨rfl, hz, ha, V, S, G⟩ | ⟨rfl, hz, hzs, ham, ha, V, S, G⟩
          · as_aux_lemma =>
            obtain rfl : s = ⟨#[]⟩ := HNE.out rfl
            have D := HD.out
            rw [V, S, G] at D
            have HD' := Lib.hid D
            clear D HD
            clear V S G hz0 haz
            go_wp2_with fail
            refine (HTK.out _).mono ?_
            rintro e w1 ⟨rfl, b1'⟩
            have HB1 := Lib.hid (HBX.out.trans (b1'.mono HBX.out.size))
            have HE1 := Lib.hid (HEX.out.call b1')
            obtain ⟨d0, d1, d2⟩ := HBB.out.call b1'
            clear b1' c0 c1 c2
            go_wp2_with fail
            refine (HD'.out _ _ HE1.out).mono ?_
            rintro e w2 ⟨rfl, e2, g2⟩
            have HB2 := Lib.hid (below_eye HB1.out g2 zE HB1.out.size)
            clear g2 d0 d1 d2
            go_wp2_with fail
            refine (bad_any _ _ _ _ e2).mono ?_
            rintro e w' ⟨rfl, rfl⟩
            go_wp2_with fail
            refine (left_is _ _ _ _ 0 e2 rfl).mono ?_
            rintro e w' ⟨rfl, rfl⟩
            go_wp2_with fail
            refine (over_is _ _ _ _ false e2 rfl).mono ?_
            rintro e w' ⟨rfl, rfl⟩
            go_wp2_with fail
            go_roundw
            case rel => exact ⟨k + 1, ⟨#[]⟩, true, by omega, by go_num, rfl, rfl, Nat.zero_le _, e2, HB2.out⟩
            case measure => simp [intOf]; omega
          · as_aux_lemma =>
            have D := HD.out
            rw [V, S, G] at D
            have HD' := Lib.hid D
            clear D HD
            have r1 : ((z : Int) == 0) = true := by simpa using hz
            clear V S G hz0 hz ha haz
            go_wp2_with fail
            refine (HTK.out _).mono ?_
            rintro e w1 ⟨rfl, b1'⟩
            have HB1 := Lib.hid (HBX.out.trans (b1'.mono HBX.out.size))
            have HE1 := Lib.hid (HEX.out.call b1')
            obtain ⟨d0, d1, d2⟩ := HBB.out.call b1'
            clear b1' c0 c1 c2
            go_wp2_with fail
            refine (HD'.out _ _ HE1.out).mono ?_
            rintro e w2 ⟨rfl, e2, g2⟩
            have HB2 := Lib.hid (below_eye HB1.out g2 zE HB1.out.size)
            clear g2 d0 d1 d2
            go_wp2_with fail
            refine (bad_any _ _ _ _ e2).mono ?_
            rintro e w' ⟨rfl, rfl⟩
            go_wp2_with fail
            refine (left_is _ _ _ _ 0 e2 rfl).mono ?_
            rintro e w' ⟨rfl, rfl⟩
            go_wp2_with fail
            refine (over_is _ _ _ _ false e2 rfl).mono ?_
            rintro e w' ⟨rfl, rfl⟩
            go_wp2_with fail
            go_roundw
            case rel => exact ⟨k + 1, ⟨#[]⟩, true, by omega, by go_num, rfl, rfl, Nat.zero_le _, e2, HB2.out⟩
            case measure => simp [intOf]; omega
          · as_aux_lemma =>
            have D := HD.out
            rw [V, S, G] at D
            have HD' := Lib.hid D
            clear D HD
            have r1 : ((z : Int) == 0) = false := by simpa using hz
            have r2 : (z : Int) ≤ s.size := by omega
            have r3 : (0 : Int) ≤ z := by omega
            have r4 : (a : Int) ≤ 9223372036854775807 := by omega
            clear V S G hz0 hz ha ham haz
            go_wp2_with fail
            refine (HTK.out _).mono ?_
            rintro e w1 ⟨rfl, b1'⟩
            have HB1 := Lib.hid (HBX.out.trans (b1'.mono HBX.out.size))
            have HE1 := Lib.hid (HEX.out.call b1')
            obtain ⟨d0, d1, d2⟩ := HBB.out.call b1'
            clear b1' c0 c1 c2
            go_wp2_with fail
            refine (HD'.out _ _ HE1.out).mono ?_
            rintro e w2 ⟨rfl, e2, g2⟩
            have HB2 := Lib.hid (below_eye HB1.out g2 zE HB1.out.size)
            clear g2 d0 d1 d2
            go_wp2_with fail
            refine (bad_any _ _ _ _ e2).mono ?_
            rintro e w' ⟨rfl, rfl⟩
            go_wp2_with fail
            refine (left_any _ _ _ _ e2).mono ?_
            rintro e w' ⟨rfl, rfl⟩
            go_wp2_with fail
            refine (over_any _ _ _ _ e2).mono ?_
            rintro e w' ⟨rfl, rfl⟩
            go_wp2_with fail
            go_roundw
            case rel => exact ⟨k + 1, s.extract z s.size, false, by omega, by go_num, rfl, rfl, small_size HS.out, e2, HB2.out⟩
            case measure => simp [intOf]; omega
        · have HTK := Lib.hid (taken_does (most := it.n) ⟨by omega, by omega⟩ (by omega) haz)
          rcases num_ways s bad _ a z haz HNE.out with ⟨rfl, V, S, G⟩ | ⟨rfl, hz, ha, V, S, G⟩ | ⟨rfl, hz, hzs, ham, ha, V, S, G⟩
          · as_aux_lemma =>
            obtain rfl : s = ⟨#[]⟩ := HNE.out rfl
            have D := HD.out
            rw [V, S, G] at D
            have HD' := Lib.hid D
            clear D HD
            clear V S G haz
            go_wp2_with fail
            refine (HTK.out _).mono ?_
            rintro e w1 ⟨rfl, b1'⟩
            have HB1 := Lib.hid (HBX.out.trans (b1'.mono HBX.out.size))
            have HE1 := Lib.hid (HEX.out.call b1')
            obtain ⟨d0, d1, d2⟩ := HBB.out.call b1'
            clear b1' c0 c1 c2
            go_wp2_with fail
            refine (HD'.out _ _ HE1.out).mono ?_
            rintro e w2 ⟨rfl, e2, g2⟩
            have HB2 := Lib.hid (below_eye HB1.out g2 zE HB1.out.size)
            clear g2 d0 d1 d2
            go_wp2_with fail
            refine (bad_any _ _ _ _ e2).mono ?_
            rintro e w' ⟨rfl, rfl⟩
            go_wp2_with fail
            refine (left_is _ _ _ _ 0 e2 rfl).mono ?_
            rintro e w' ⟨rfl, rfl⟩
            go_wp2_with fail
            refine (over_is _ _ _ _ false e2 rfl).mono ?_
            rintro e w' ⟨rfl, rfl⟩
            go_wp2_with fail
            go_roundw
            case rel => exact ⟨k + 1, ⟨#[]⟩, true, by omega, by go_num, rfl, rfl, Nat.zero_le _, e2, HB2.out⟩
            case measure => simp [intOf]; omega
          · as_aux_lemma =>
            have D := HD.out
            rw [V, S, G] at D
            have HD' := Lib.hid D
            clear D HD
            have r1 : ((z : Int) == 0) = true := by simpa using hz
            clear V S G hz ha haz
            go_wp2_with fail
            refine (HTK.out _).mono ?_
            rintro e w1 ⟨rfl, b1'⟩
            have HB1 := Lib.hid (HBX.out.trans (b1'.mono HBX.out.size))
            have HE1 := Lib.hid (HEX.out.call b1')
            obtain ⟨d0, d1, d2⟩ := HBB.out.call b1'
            clear b1' c0 c1 c2
            go_wp2_with fail
            refine (HD'.out _ _ HE1.out).mono ?_
            rintro e w2 ⟨rfl, e2, g2⟩
            have HB2 := Lib.hid (below_eye HB1.out g2 zE HB1.out.size)
            clear g2 d0 d1 d2
            go_wp2_with fail
            refine (bad_any _ _ _ _ e2).mono ?_
            rintro e w' ⟨rfl, rfl⟩
            go_wp2_with fail
            refine (left_is _ _ _ _ 0 e2 rfl).mono ?_
            rintro e w' ⟨rfl, rfl⟩
            go_wp2_with fail
            refine (over_is _ _ _ _ false e2 rfl).mono ?_
            rintro e w' ⟨rfl, rfl⟩
            go_wp2_with fail
            go_roundw
            case rel => exact ⟨k + 1, ⟨#[]⟩, true, by omega, by go_num, rfl, rfl, Nat.zero_le _, e2, HB2.out⟩
            case measure => simp [intOf]; omega
          · as_aux_lemma =>
            have D := HD.out
            rw [V, S, G] at D
            have HD' := Lib.hid D
            clear D HD
            have r1 : ((z : Int) == 0) = false := by simpa using hz
            have r2 : (z : Int) ≤ s.size := by omega
            have r3 : (0 : Int) ≤ z := by omega
            have r4 : (a : Int) ≤ 9223372036854775807 := by unfold sm at ham; omega
            clear V S G hz ha ham haz
            go_wp2_with fail
            refine (HTK.out _).mono ?_
            rintro e w1 ⟨rfl, b1'⟩
            have HB1 := Lib.hid (HBX.out.trans (b1'.mono HBX.out.size))
            have HE1 := Lib.hid (HEX.out.call b1')
            obtain ⟨d0, d1, d2⟩ := HBB.out.call b1'
            clear b1' c0 c1 c2
            go_wp2_with fail
            refine (HD'.out _ _ HE1.out).mono ?_
            rintro e w2 ⟨rfl, e2, g2⟩
            have HB2 := Lib.hid (below_eye HB1.out g2 zE HB1.out.size)
            clear g2 d0 d1 d2
            go_wp2_with fail
            refine (bad_any _ _ _ _ e2).mono ?_
            rintro e w' ⟨rfl, rfl⟩
            go_wp2_with fail
            refine (left_any _ _ _ _ e2).mono ?_
            rintro e w' ⟨rfl, rfl⟩
            go_wp2_with fail
            refine (over_any _ _ _ _ e2).mono ?_
            rintro e w' ⟨rfl, rfl⟩
            go_wp2_with fail
            go_roundw
            case rel => exact ⟨k + 1, s.extract z s.size, false, by omega, by go_num, rfl, rfl, small_size HS.out, e2, HB2.out⟩
            case measure => simp [intOf]; omega
      by_cases k4 : it.kind = 4
      · have T0 := True.intro
        clear k0 k1 k2 k3
        have q0 : (it.kind == 0) = false := by rw [k4]; rfl
        have q1 : (it.kind == 1) = false := by rw [k4]; rfl
        have q2 : (it.kind == 2) = false := by rw [k4]; rfl
        have q3 : (it.kind == 3) = false := by rw [k4]; rfl
        have q4 : (it.kind == 4) = true := by rw [k4]; rfl
        clear k4
        obtain ⟨a, z, haz⟩ : ∃ a z, takS s.data.toList 9223372036854775807 = (a, z) := ⟨_, _, rfl⟩
        have HTK := Lib.hid (taken_does (most := 9223372036854775807) ⟨by decide, by decide⟩ (by omega) haz)
        have HD := Lib.hid (count_does (s := s) (bad := bad) (by omega))
        rcases num_ways s bad _ a z haz HNE.out with ⟨rfl, V, S, G⟩ | ⟨rfl, hz, ha, V, S, G⟩ | ⟨rfl, hz, hzs, ham, ha, V, S, G⟩
        · as_aux_lemma =>
          obtain rfl : s = ⟨#[]⟩ := HNE.out rfl
          have G2 : cgone ⟨#[]⟩ true = true := rfl
          have S2 : cS ⟨#[]⟩ true = ⟨#[]⟩ := by unfold cS; rw [G2]; rfl
          have D := HD.out
          rw [V, S2, G2] at D
          have HD' := Lib.hid D
          clear D HD
          clear V S G S2 G2 haz
          go_wp2_with fail
          refine (HTK.out _).mono ?_
          rintro e w1 ⟨rfl, b1'⟩
          have HB1 := Lib.hid (HBX.out.trans (b1'.mono HBX.out.size))
          have HE1 := Lib.hid (HEX.out.call b1')
          obtain ⟨d0, d1, d2⟩ := HBB.out.call b1'
          clear b1' c0 c1 c2
          go_wp2_with fail
          refine (HD'.out _ _ HE1.out).mono ?_
          rintro e w2 ⟨rfl, e2, g2⟩
          have HB2 := Lib.hid (below_eye HB1.out g2 zE HB1.out.size)
          clear g2 d0 d1 d2
          go_wp2_with fail
          refine (bad_any _ _ _ _ e2).mono ?_
          rintro e w' ⟨rfl, rfl⟩
          go_wp2_with fail
          refine (left_is _ _ _ _ 0 e2 rfl).mono ?_
          rintro e w' ⟨rfl, rfl⟩
          go_wp2_with fail
          refine (over_is _ _ _ _ false e2 rfl).mono ?_
          rintro e w' ⟨rfl, rfl⟩
          go_wp2_with fail
          go_roundw
          case rel => exact ⟨k + 1, ⟨#[]⟩, true, by omega, by go_num, rfl, rfl, Nat.zero_le _, e2, HB2.out⟩
          case measure => simp [intOf]; omega
        · as_aux_lemma =>
          have G2 : cgone s false = true := by unfold cgone; rw [G]; rfl
          have S2 : cS s false = ⟨#[]⟩ := by unfold cS; rw [G2]; rfl
          have r1 : ((z : Int) == 0) = true := by simpa using hz
          have D := HD.out
          rw [V, S2, G2] at D
          have HD' := Lib.hid D
          clear D HD
          clear V S G S2 G2 haz hz ha
          go_wp2_with fail
          refine (HTK.out _).mono ?_
          rintro e w1 ⟨rfl, b1'⟩
          have HB1 := Lib.hid (HBX.out.trans (b1'.mono HBX.out.size))
          have HE1 := Lib.hid (HEX.out.call b1')
          obtain ⟨d0, d1, d2⟩ := HBB.out.call b1'
          clear b1' c0 c1 c2
          go_wp2_with fail
          refine (HD'.out _ _ HE1.out).mono ?_
          rintro e w2 ⟨rfl, e2, g2⟩
          have HB2 := Lib.hid (below_eye HB1.out g2 zE HB1.out.size)
          clear g2 d0 d1 d2
          go_wp2_with fail
          refine (bad_any _ _ _ _ e2).mono ?_
          rintro e w' ⟨rfl, rfl⟩
          go_wp2_with fail
          refine (left_is _ _ _ _ 0 e2 rfl).mono ?_
          rintro e w' ⟨rfl, rfl⟩
          go_wp2_with fail
          refine (over_is _ _ _ _ false e2 rfl).mono ?_
          rintro e w' ⟨rfl, rfl⟩
          go_wp2_with fail
          go_roundw
          case rel => exact ⟨k + 1, ⟨#[]⟩, true, by omega, by go_num, rfl, rfl, Nat.zero_le _, e2, HB2.out⟩
          case measure => simp [intOf]; omega
        · by_cases hza : a = 0
          · as_aux_lemma =>
            obtain rfl : a = 0 := hza
            have G2 : cgone s false = true := by unfold cgone; rw [V]; simp
            have S2 : cS s false = ⟨#[]⟩ := by unfold cS; rw [G2]; rfl
            have r1 : ((z : Int) == 0) = false := by simpa using hz
            have r2 : (z : Int) ≤ s.size := by omega
            have r3 : (0 : Int) ≤ z := by omega
            have D := HD.out
            rw [V, S2, G2] at D
            have HD' := Lib.hid D
            clear D HD
            clear V S G S2 G2 haz hz ha ham
            go_wp2_with fail
            refine (HTK.out _).mono ?_
            rintro e w1 ⟨rfl, b1'⟩
            have HB1 := Lib.hid (HBX.out.trans (b1'.mono HBX.out.size))
            have HE1 := Lib.hid (HEX.out.call b1')
            obtain ⟨d0, d1, d2⟩ := HBB.out.call b1'
            clear b1' c0 c1 c2
            go_wp2_with fail
            refine (HD'.out _ _ HE1.out).mono ?_
            rintro e w2 ⟨rfl, e2, g2⟩
            have HB2 := Lib.hid (below_eye HB1.out g2 zE HB1.out.size)
            clear g2 d0 d1 d2
            go_wp2_with fail
            refine (bad_any _ _ _ _ e2).mono ?_
            rintro e w' ⟨rfl, rfl⟩
            go_wp2_with fail
            refine (left_is _ _ _ _ 0 e2 rfl).mono ?_
            rintro e w' ⟨rfl, rfl⟩
            go_wp2_with fail
            refine (over_is _ _ _ _ false e2 rfl).mono ?_
            rintro e w' ⟨rfl, rfl⟩
            go_wp2_with fail
            go_roundw
            case rel => exact ⟨k + 1, ⟨#[]⟩, true, by omega, by go_num, rfl, rfl, Nat.zero_le _, e2, HB2.out⟩
            case measure => simp [intOf]; omega
          · as_aux_lemma =>
            have r5 : ((a : Int) == 0) = false := by simp; omega
            have G2 : cgone s false = false := by unfold cgone; rw [V, G, r5]; rfl
            have S2 : cS s false = s.extract z s.size := by unfold cS; rw [G2, ← S]; rfl
            have r1 : ((z : Int) == 0) = false := by simpa using hz
            have r2 : (z : Int) ≤ s.size := by omega
            have r3 : (0 : Int) ≤ z := by omega
            have D := HD.out
            rw [V, S2, G2] at D
            have HD' := Lib.hid D
            clear D HD
            clear V S G S2 G2 haz hz ha ham hza
            go_wp2_with fail
            refine (HTK.out _).mono ?_
            rintro e w1 ⟨rfl, b1'⟩
            have HB1 := Lib.hid (HBX.out.trans (b1'.mono HBX.out.size))
            have HE1 := Lib.hid (HEX.out.call b1')
            obtain ⟨d0, d1, d2⟩ := HBB.out.call b1'
            clear b1' c0 c1 c2
            go_wp2_with fail
            refine (HD'.out _ _ HE1.out).mono ?_
            rintro e w2 ⟨rfl, e2, g2⟩
            have HB2 := Lib.hid (below_eye HB1.out g2 zE HB1.out.size)
            clear g2 d0 d1 d2
            go_wp2_with fail
            refine (bad_any _ _ _ _ e2).mono ?_
            rintro e w' ⟨rfl, rfl⟩
            go_wp2_with fail
            refine (left_any _ _ _ _ e2).mono ?_
            rintro e w' ⟨rfl, rfl⟩
            go_wp2_with fail
            refine (over_any _ _ _ _ e2).mono ?_
            rintro e w' ⟨rfl, rfl⟩
            go_wp2_with fail
            go_roundw
            case rel => exact ⟨k + 1, s.extract z s.size, false, by omega, by go_num, rfl, rfl, small_size HS.out, e2, HB2.out⟩
            case measure => simp [intOf]; omega
      have q0 : (it.kind == 0) = false := by simpa using k0
      have q1 : (it.kind == 1) = false := by simpa using k1
      have q2 : (it.kind == 2) = false := by simpa using k2
      have q3 : (it.kind == 3) = false := by simpa using k3
      have q4 : (it.kind == 4) = false := by simpa using k4
      clear k0 k1 k2 k3 k4
      obtain ⟨a, z, haz⟩ : ∃ a z, takS s.data.toList 18446744073709551615 = (a, z) := ⟨_, _, rfl⟩
      have HTK := Lib.hid (taken_does (most := 18446744073709551615) ⟨by decide, by decide⟩ (by omega) haz)
      rcases num_ways s bad _ a z haz HNE.out with ⟨rfl, V, S, G⟩ | ⟨rfl, hz, ha, V, S, G⟩ | ⟨rfl, hz, hzs, ham, ha, V, S, G⟩
      · as_aux_lemma =>
        obtain rfl : s = ⟨#[]⟩ := HNE.out rfl
        clear V S G haz
        go_wp2_with fail
        refine (HTK.out _).mono ?_
        rintro e w1 ⟨rfl, b1'⟩
        have HB1 := Lib.hid (HBX.out.trans (b1'.mono HBX.out.size))
        have HE1 := Lib.hid (HEX.out.call b1')
        obtain ⟨d0, d1, d2⟩ := HBB.out.call b1'
        clear b1' c0 c1 c2
        go_wp2_with fail
        go_ret
        exact ⟨rfl, HB1.out⟩
      · as_aux_lemma =>
        have r1 : ((z : Int) == 0) = true := by simpa using hz
        clear V S G haz hz ha
        go_wp2_with fail
        refine (HTK.out _).mono ?_
        rintro e w1 ⟨rfl, b1'⟩
        have HB1 := Lib.hid (HBX.out.trans (b1'.mono HBX.out.size))
        have HE1 := Lib.hid (HEX.out.call b1')
        obtain ⟨d0, d1, d2⟩ := HBB.out.call b1'
        clear b1' c0 c1 c2
        go_wp2_with fail
        go_ret
        exact ⟨rfl, HB1.out⟩
      · as_aux_lemma =>
        have r1 : ((z : Int) == 0) = false := by simpa using hz
        have r2 : (z : Int) ≤ s.size := by omega
        have r3 : (0 : Int) ≤ z := by omega
        clear V S G haz hz ha ham
        go_wp2_with fail
        refine (HTK.out _).mono ?_
        rintro e w1 ⟨rfl, b1'⟩
        have HB1 := Lib.hid (HBX.out.trans (b1'.mono HBX.out.size))
        have HE1 := Lib.hid (HEX.out.call b1')
        obtain ⟨d0, d1, d2⟩ := HBB.out.call b1'
        clear b1' c0 c1 c2
        go_wp2_with fail
        go_ret
        exact ⟨rfl, HB1.out⟩
    · as_aux_lemma =>
      obtain rfl : k = L.length := by omega
      have kk : ¬ (L.length : Int) < L.length := by omega
      clear hey
      go_wp2_with fail
      refine (shut_none _).mono ?_
      rintro e w' ⟨rfl, rfl⟩
      go_wp2_with fail
      refine (raw_none _ _).mono ?_
      rintro e w' ⟨rfl, rfl⟩
      go_wp2_with fail
      refine (nat_none _ _).mono ?_
      rintro e w' ⟨rfl, rfl⟩
      go_wp2_with fail
      refine (int_none _).mono ?_
      rintro e w' ⟨rfl, rfl⟩
      go_wp2_with fail
      refine (small_none _ _ ⟨by decide, by decide⟩).mono ?_
      rintro e w' ⟨rfl, rfl⟩
      go_wp2_with fail
      refine (count_none _).mono ?_
      rintro e w' ⟨rfl, rfl⟩
      go_wp2_with fail
      refine (bad_none _).mono ?_
      rintro e w' ⟨rfl, rfl⟩
      go_wp2_with fail
      refine (over_none _).mono ?_
      rintro e w' ⟨rfl, rfl⟩
      go_wp2_with fail
      refine (left_none _).mono ?_
      rintro e w' ⟨rfl, rfl⟩
      go_wp2_with fail
      go_ret
      exact ⟨rfl, hb⟩
end Go.Proofs.Ytpnbhgnpofoeaaa
