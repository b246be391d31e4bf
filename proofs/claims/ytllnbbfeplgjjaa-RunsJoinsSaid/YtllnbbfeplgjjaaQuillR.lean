/-
  Walks: the reference's bytes of numbers and of values.
-/
import Derived.Test.YtllnbbfeplgjjaaRows
import Derived.Test.YtllnbbfeplgjjaaQuillN
import Derived.Test.YtllnbbfeplgjjaaSignA
import Derived.Test.YtllnbbfeplgjjaaTwo
import Derived.WalkKit
import Derived.WalkSpells
import Derived.WalkLawsBesides
import Derived.WalkMore
import Derived.LoopTactic
import Derived.OneCell
import Derived.Lib.Strings
import Derived.Laws.BytesArg
import Derived.Laws.Concat
import Derived.Outline
import Derived.Deep.RegionHeld3
namespace Go.Proofs.Ytllnbbfeplgjjaa
set_option linter.unusedVariables false
set_option linter.unusedSimpArgs false
open Go.RowKit

/-- One byte that was just laid, as a string. -/
theorem one_text (W : World) (b : UInt8) (y : Int) (hy : y = (b.toNat : Int)) :
    (convert 40 9 (.slice (some ⟨W.heap.size, 0, none⟩) 1 1)).run Try.prog (W.alloc (.cells #[.int .u8 y] 5)) = .ok (.string ⟨#[b]⟩) (W.alloc (.cells #[.int .u8 y] 5)) := by
  subst hy
  have h := run_convert_bytes_arg (P := Try.prog) (W.alloc (.cells #[.int .u8 (b.toNat : Int)] 5)) _ _ Try.underlying40 Try.underlying5 W.heap.size 0 1 1 [(b.toNat : Int)] rfl (by
    intro i hi
    obtain rfl : i = 0 := by omega
    simp) _ Try.underlying9
  rw [h]
  simp [strOfNums]
theorem str_eq {a : ByteArray} {l : List UInt8} (h : a.data.toList = l) : a = ⟨l.toArray⟩ := by subst h; rfl
theorem str_app (a : ByteArray) (b : UInt8) : (a ++ ⟨#[b]⟩).data.toList = a.data.toList ++ [b] := by
  rw [ByteArray.data_append]; simp

set_option maxRecDepth 1000000 in
set_option maxHeartbeats 1000000 in
theorem rnat_any (n : Int) (hn : Word n) (w : World) :
    Calls Try.prog 31 #[.int .u64 n] w fun e w' =>
      e = .returned (.string ⟨(natB n.toNat).toArray⟩) ∧ Below w.heap.size w w' := by
  have HT : Hid ((natB n.toNat).length ≤ 10) := Lib.hid (natB_len10 (by unfold Word at hn; omega))
  go_enter Try.func31, Try.ntmps31
  go_wp2_with fail
  go_loopw [0, 3] (fun n' s wr => ∃ (m : Int) (acc : ByteArray), n' = .int .u64 m ∧ s = .string acc ∧ Word m ∧ natB n.toNat = acc.data.toList ++ natB m.toNat ∧ Below w.heap.size w wr) (fun n' _ _ => (intOf n').toNat)
  case atStart => exact ⟨n, _, rfl, rfl, hn, rfl, Below.refl _ _⟩
  case round =>
    obtain ⟨m, acc, rfl, rfl, ⟨m0, m1⟩, hnat, hb⟩ := hrel
    have HN := Lib.hid hnat
    have hsz : (acc.size : Int) ≤ 10 := by
      have h1 := HT.out; rw [hnat, List.length_append] at h1; rw [Lib.size_eq]; omega
    have hB := hb.size
    clear hnat
    by_cases hm : m ≤ 127
    · have HM : Hid (natB m.toNat = [UInt8.ofNat m.toNat]) := Lib.hid (natB_lt (by omega))
      have hcv := one_text wr (UInt8.ofNat m.toNat) m (by rw [toNat_low (by omega)]; omega)
      go_wp2_with fail
      go_ret
      refine ⟨?_, hb.alloc hB _⟩
      have E : acc ++ ⟨#[UInt8.ofNat m.toNat]⟩ = ⟨(natB n.toNat).toArray⟩ := str_eq (by rw [str_app, HN.out, HM.out])
      exact congrArg (fun x => Ending.returned (.string x)) E
    · obtain ⟨b, hb8⟩ : ∃ b, b = UInt8.ofNat (m.toNat % 128 + 128) := ⟨_, rfl⟩
      have HM : Hid (natB m.toNat = b :: natB (m.toNat / 128)) := Lib.hid (by rw [hb8]; exact natB_ge (by omega))
      have hcv := one_text wr b (128 + m % 128) (by rw [hb8, toNat_low (by omega)]; omega)
      clear hb8
      go_wp2_with fail
      go_roundw
      case rel =>
        have e1 : (m / 128).toNat = m.toNat / 128 := by omega
        exact ⟨m / 128, _, rfl, rfl, ⟨by omega, by omega⟩, by rw [str_app, HN.out, HM.out, e1]; simp, hb.alloc hB _⟩
      case measure => simp [intOf]; omega

set_option maxHeartbeats 400000 in
theorem rint_any (x : Int) (hx : I64 x) (w : World) :
    Calls Try.prog 32 #[.int .i64 x] w fun e w' =>
      e = .returned (.string ⟨(natB (zig x).toNat).toArray⟩) ∧ Below w.heap.size w w' := by
  go_enter Try.func32, Try.ntmps32
  go_wp2_with fail
  refine (rzig_any _ hx _).mono ?_
  rintro e w' ⟨rfl, rfl⟩
  go_wp2_with fail
  refine (rnat_any _ (zig_word hx) _).mono ?_
  rintro e w' ⟨rfl, hb⟩
  go_wp2_with fail
  go_ret
  exact ⟨rfl, hb⟩

theorem byte_atA' (s : ByteArray) (k : Nat) (h : k < s.size) : s.data.toList[k]? = some (s[k]'h) := by
  obtain ⟨⟨l⟩⟩ := s
  exact List.getElem?_eq_getElem h

set_option maxRecDepth 1000000 in
set_option maxHeartbeats 4000000 in
theorem taken_any (s : ByteArray) (most : Int) (hm : Word most) (hs : s.size ≤ 1000000) (w : World) :
    Calls Try.prog 24 #[.string s, .int .u64 most] w fun e w' =>
      e = .returned (.tuple #[.int .u64 ((takS s.data.toList most.toNat).1 : Nat), .int .i64 ((takS s.data.toList most.toNat).2 : Nat)]) ∧ Below w.heap.size w w' := by
  have HX := Lib.hid (byte_atA' s)
  obtain ⟨m0, m1⟩ := hm
  go_enter Try.func24, Try.ntmps24
  go_wp2_with fail
  go_loopw [6] (fun i wr => ∃ j : Nat, j ≤ s.size ∧ j ≤ 10 ∧ i = .int .i64 ((j : Int) + 1) ∧ (s.data.toList.take j).all hiB = true ∧ wr = w) (fun i _ => (11 - (intOf i).toNat))
  case atStart => exact ⟨0, Nat.zero_le _, Nat.zero_le _, rfl, rfl, rfl⟩
  case round =>
    obtain ⟨j, hj, hj10, rfl, hA, rfl⟩ := hrel
    by_cases h10 : j = 10
    · have E := Lib.hid (tak_none (most := most.toNat) (firstS_far (l := s.data.toList) (by rw [← h10]; exact hA) (by rw [← Lib.size_eq]; omega)))
      have q1 : ¬ (j : Int) + 1 ≤ 10 := by omega
      clear hA h10
      go_wp2_with fail
      go_ret2
      exact ⟨by rw [E.out]; rfl, Below.refl _ _⟩
    · by_cases hp : j < s.size
      · have q1 : (j : Int) + 1 ≤ 10 := by omega
        have q2 : (j : Int) + 1 ≤ s.size := by omega
        have q3 : (j : Int) < s.size := by omega
        have hx := HX.out j hp
        by_cases hb : 127 < ((s[j]'hp).toNat : Int)
        · have E : Hid ((s.data.toList.take (j + 1)).all hiB = true) := Lib.hid (by rw [allH_take hx, hA]; unfold hiB; simp; omega)
          clear hx hA
          go_wp2_with fail
          go_roundw
          case rel => exact ⟨j + 1, by omega, by omega, by go_num, E.out, trivial⟩
          case measure => simp [intOf]; omega
        · have E := Lib.hid (tak_at (most := most.toNat) (by omega) hA hx (by unfold hiB; simp; omega))
          have HS := Lib.hid (fun t b h h' => hor_step (l := s.data.toList) (j := j) (t := t) (b := b) h h')
          have H0 := Lib.hid (hor_start (l := s.data.toList) (j := j) (by rw [← Lib.size_eq]; exact hp))
          clear hx hA
          go_wp2_with fail
          go_loop [7, 8] (fun n i => ∃ t : Nat, t ≤ j + 1 ∧ i = .int .i64 ((t : Int) - 1) ∧ n = .int .u64 (hor s.data.toList j t : Nat)) (fun _ i => (intOf i + 1).toNat)
          case atStart => exact ⟨j + 1, Nat.le_refl _, by go_num, by rw [H0.out]; rfl⟩
          case round =>
            obtain ⟨t, ht, rfl, rfl⟩ := hrel
            have hl := hor_lt s.data.toList j t
            by_cases h0 : t = 0
            · subst h0
              have HR := rnat_any (hor s.data.toList j 0 : Nat) (by unfold Word; omega)
              rw [Int.toNat_natCast] at HR
              have HRH := Lib.hid HR
              clear HR
              have n0 : (0 : Int) ≤ (hor s.data.toList j 0 : Nat) := by omega
              have hex : (s.extract 0 (j + 1)).data.toList = s.data.toList.take (j + 1) := by
                rw [← Lib.toList_data, Lib.extract_toList]; simp
              have q0 : (0 : Int) ≤ (j : Int) + 1 := by omega
              by_cases hc : natB (hor s.data.toList j 0) = s.data.toList.take (j + 1)
              · have b1 : (natB (hor s.data.toList j 0) == (s.extract 0 (j + 1)).toList) = true := by
                  rw [Lib.toList_data, hex, beq_iff_eq]; exact hc
                by_cases hle : most < (hor s.data.toList j 0 : Nat)
                · have hf : takS s.data.toList most.toNat = (0, 0) := by rw [E.out, if_neg (fun h => by have := h.2; omega)]
                  have HF := Lib.hid hf
                  clear hf hc hex E
                  generalize hor s.data.toList j 0 = v at *
                  generalize natB v = bs at *
                  have b2 : (!bs == (s.extract 0 (j + 1)).toList) = false := by rw [b1]; rfl
                  go_wp2_with fail
                  go_region_held3 (fun w' => Below wr.heap.size wr w') (first | exact (Below.refl _ _).drew | exact (Below.refl _ _).drew.trans hbC)
                    ((go_at_call 31; refine (HRH.out _).mono ?_; rintro e wC ⟨rfl, hbC⟩))
                  go_wp2_with fail
                  go_ret2
                  exact ⟨by rw [HF.out]; rfl, (Below.refl _ _).drew.trans hbC⟩
                · have hf : takS s.data.toList most.toNat = (hor s.data.toList j 0, j + 1) := by rw [E.out, if_pos ⟨hc, by omega⟩]
                  have HF := Lib.hid hf
                  clear hf hc hex E
                  generalize hor s.data.toList j 0 = v at *
                  generalize natB v = bs at *
                  have b2 : (!bs == (s.extract 0 (j + 1)).toList) = false := by rw [b1]; rfl
                  go_wp2_with fail
                  go_region_held3 (fun w' => Below wr.heap.size wr w') (first | exact (Below.refl _ _).drew | exact (Below.refl _ _).drew.trans hbC)
                    ((go_at_call 31; refine (HRH.out _).mono ?_; rintro e wC ⟨rfl, hbC⟩))
                  go_wp2_with fail
                  go_ret2
                  exact ⟨by rw [HF.out]; rfl, (Below.refl _ _).drew.trans hbC⟩
              · have b1 : (natB (hor s.data.toList j 0) == (s.extract 0 (j + 1)).toList) = false := by
                  rw [Lib.toList_data, hex, beq_eq_false_iff_ne]; exact hc
                have hf : takS s.data.toList most.toNat = (0, 0) := by rw [E.out, if_neg (fun h => hc h.1)]
                have HF := Lib.hid hf
                clear hf hc hex E
                generalize hor s.data.toList j 0 = v at *
                generalize natB v = bs at *
                have b2 : (!bs == (s.extract 0 (j + 1)).toList) = true := by rw [b1]; rfl
                go_wp2_with fail
                refine wp_region_noPanic ?_
                refine wp_region_held_drew (S := fun w' => Below wr.heap.size wr w') (by kernel_rfl) ((Below.refl _ _).drew) (fun hHeld => ?_)
                refine wpAnyH_take (i := 0) (oi := _) (v := ?v0) (by simp only [List.getElem?_toArray, List.getElem?_cons_succ, List.getElem?_cons_zero]; rfl) (by kernel_rfl) (by kernel_rfl) (by kernel_rfl) (fun _ _ _ h => h) (Or.inl ⟨by rfl, ?y0⟩) hHeld ?r0
                case y0 => (intro w hSw; (try dsimp only at hSw); go_simp; try with_reducible rfl)
                try simp only [Act.put, List.setIfInBounds_toArray, List.set_cons_zero, List.set_cons_succ]
                refine wpAnyH_take (i := 2) (oi := _) (v := ?v2) (by simp only [List.getElem?_toArray, List.getElem?_cons_succ, List.getElem?_cons_zero]; rfl) (by kernel_rfl) (by kernel_rfl) (by kernel_rfl) (fun _ _ _ h => h) (Or.inl ⟨by rfl, ?y2⟩) hHeld ?r2
                case y2 => (intro w hSw; (try dsimp only at hSw); go_simp; try with_reducible rfl)
                try simp only [Act.put, List.setIfInBounds_toArray, List.set_cons_zero, List.set_cons_succ]
                refine wpAnyH_take (i := 3) (oi := _) (v := ?v3) (by simp only [List.getElem?_toArray, List.getElem?_cons_succ, List.getElem?_cons_zero]; rfl) (by kernel_rfl) (by kernel_rfl) (by kernel_rfl) (fun _ _ _ h => h) (Or.inl ⟨by rfl, ?y3⟩) hHeld ?r3
                case y3 => (intro w hSw; (try dsimp only at hSw); go_simp; try with_reducible rfl)
                try simp only [Act.put, List.setIfInBounds_toArray, List.set_cons_zero, List.set_cons_succ]
                refine wpAnyH_take (i := 4) (oi := _) (v := ?v4) (by simp only [List.getElem?_toArray, List.getElem?_cons_succ, List.getElem?_cons_zero]; rfl) (by kernel_rfl) (by kernel_rfl) (by kernel_rfl) (fun _ _ _ h => h) (Or.inl ⟨by rfl, ?y4⟩) hHeld ?r4
                case y4 => (intro w hSw; (try dsimp only at hSw); go_simp; try with_reducible rfl)
                try simp only [Act.put, List.setIfInBounds_toArray, List.set_cons_zero, List.set_cons_succ]
                refine wpAnyH_ready (rs := [1]) (by kernel_rfl) (by simp) ?_
                refine AllReadyH.cons (o := _) (by simp only [List.getElem?_toArray, List.getElem?_cons_succ, List.getElem?_cons_zero]; rfl) (fun K hK => ?_) AllReadyH.nil
                go_simp
                go_at_call 31; refine (HRH.out _).mono ?_; rintro e wC ⟨rfl, hbC⟩
                try (go_wp2_with fail)
                refine hK.out _ _ ((Below.refl _ _).drew.trans hbC) (fun hHeld => ?_)
                clear hK K
                try simp only [Act.put, List.setIfInBounds_toArray, List.set_cons_zero, List.set_cons_succ]
                refine wpAnyH_take (i := 5) (oi := _) (v := ?v5) (by simp only [List.getElem?_toArray, List.getElem?_cons_succ, List.getElem?_cons_zero]; rfl) (by kernel_rfl) (by kernel_rfl) (by kernel_rfl) (fun _ _ _ h => h) (Or.inl ⟨by rfl, ?y5⟩) hHeld ?r5
                case y5 => (intro w hSw; (try dsimp only at hSw); go_simp; try with_reducible rfl)
                try simp only [Act.put, List.setIfInBounds_toArray, List.set_cons_zero, List.set_cons_succ]
                refine wpAnyH_take (i := 6) (oi := _) (v := ?v6) (by simp only [List.getElem?_toArray, List.getElem?_cons_succ, List.getElem?_cons_zero]; rfl) (by kernel_rfl) (by kernel_rfl) (by kernel_rfl) (fun _ _ _ h => h) (Or.inl ⟨by rfl, ?y6⟩) hHeld ?r6
                case y6 => (intro w hSw; (try dsimp only at hSw); go_simp; try with_reducible rfl)
                try simp only [Act.put, List.setIfInBounds_toArray, List.set_cons_zero, List.set_cons_succ]
                refine wpAnyH_take (i := 7) (oi := _) (v := _) (by simp only [List.getElem?_toArray, List.getElem?_cons_succ, List.getElem?_cons_zero]; rfl) (by kernel_rfl) (by kernel_rfl) (by kernel_rfl) (fun _ _ _ h => h) (Or.inr ⟨by rfl, rfl⟩) hHeld ?_
                try simp only [Act.put, List.setIfInBounds_toArray, List.set_cons_zero, List.set_cons_succ]
                refine wpAnyH_take (i := 8) (oi := _) (v := _) (by simp only [List.getElem?_toArray, List.getElem?_cons_succ, List.getElem?_cons_zero]; rfl) (by kernel_rfl) (by kernel_rfl) (by kernel_rfl) (fun _ _ _ h => h) (Or.inr ⟨by rfl, rfl⟩) hHeld ?_
                try simp only [Act.put, List.setIfInBounds_toArray, List.set_cons_zero, List.set_cons_succ]
                refine wpAnyH_take (i := 9) (oi := _) (v := _) (by simp only [List.getElem?_toArray, List.getElem?_cons_succ, List.getElem?_cons_zero]; rfl) (by kernel_rfl) (by kernel_rfl) (by kernel_rfl) (fun _ _ _ h => h) (Or.inr ⟨by rfl, rfl⟩) hHeld ?_
                try simp only [Act.put, List.setIfInBounds_toArray, List.set_cons_zero, List.set_cons_succ]
                refine wpAnyH_take (i := 10) (oi := _) (v := ?v10) (by simp only [List.getElem?_toArray, List.getElem?_cons_succ, List.getElem?_cons_zero]; rfl) (by kernel_rfl) (by kernel_rfl) (by kernel_rfl) (fun _ _ _ h => h) (Or.inl ⟨by rfl, ?y10⟩) hHeld ?r10
                case y10 => (intro w hSw; (try dsimp only at hSw); go_simp; try with_reducible rfl)
                try simp only [Act.put, List.setIfInBounds_toArray, List.set_cons_zero, List.set_cons_succ]
                refine wpAnyH_done (by kernel_rfl) ?_ _
                refine NoPanic.normal ?_
                go_wp2_with fail
                go_ret2
                exact ⟨by rw [HF.out]; rfl, (Below.refl _ _).drew.trans hbC⟩
            · obtain ⟨u, rfl⟩ : ∃ u, t = u + 1 := ⟨t - 1, by omega⟩
              have hu : u < s.size := by omega
              have hst := HS.out u _ (by omega) (HX.out u hu)
              have q4 : (u : Int) < s.size := by omega
              have q5 : 0 ≤ (u : Int) := by omega
              have HST := Lib.hid hst
              have hbt := (s[u]'hu).toNat_lt
              have HBT : Hid ((s[u]'hu).toNat < 256) := Lib.hid hbt
              clear hst hbt
              go_wp2_with fail
              go_round
              case rel =>
                refine ⟨u, by omega, rfl, ?_⟩
                have h1 := HBT.out
                have h2 := HST.out
                congr 1
                rw [h2]
                simp only [IntKind.wrap_u64]
                rw [Int.tmod_eq_emod_of_nonneg (by omega)]
                omega
              case measure => simp [intOf]
      · have E := Lib.hid (tak_none (most := most.toNat) (firstS_end (l := s.data.toList) (by
          have e1 : j = s.data.toList.length := by rw [← Lib.size_eq]; omega
          rw [e1, List.take_length] at hA; exact hA)))
        have q1 : (j : Int) + 1 ≤ 10 := by omega
        have q2 : ¬ (j : Int) + 1 ≤ s.size := by omega
        clear hA h10
        go_wp2_with fail
        go_ret2
        exact ⟨by rw [E.out]; rfl, Below.refl _ _⟩
end Go.Proofs.Ytllnbbfeplgjjaa
