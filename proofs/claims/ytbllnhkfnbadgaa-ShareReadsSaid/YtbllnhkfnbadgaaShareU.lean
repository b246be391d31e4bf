/-
  Walks: the reference's Read, of a text that is no name.
-/
import Derived.Test.YtbllnhkfnbadgaaShareT
namespace Go.Proofs.Ytbllnhkfnbadgaa
set_option linter.unusedVariables false
set_option linter.unusedSimpArgs false
open Go.RowKit Go.Shelf

set_option maxRecDepth 1000000 in
set_option maxHeartbeats 4000000 in
theorem rplain (s : ByteArray) (hs : s.size ≤ 9223372036854775807) (h1 : nm1 s.data.toList = false) (h2 : nm2 s.data.toList = false) (h3 : nm3 s.data.toList = false) (h4 : nm4 s.data.toList = false) (w : World) :
    Calls Try.prog 19 #[.string s] w fun e w' =>
      e = .returned (.tuple #[.agg #[.int .u64 (rdA s.data.toList), .int .u64 (rdB s.data.toList)], .bool (rdO s.data.toList)]) ∧ Below w.heap.size w w' := by
  have q1 : (s.toList == [108, 101, 97, 115, 116]) = false := by rw [Lib.toList_data]; exact h1
  have q2 : (s.toList == [113, 117, 97, 114, 116, 101, 114]) = false := by rw [Lib.toList_data]; exact h2
  have q3 : (s.toList == [104, 97, 108, 102]) = false := by rw [Lib.toList_data]; exact h3
  have q4 : (s.toList == [109, 111, 115, 116]) = false := by rw [Lib.toList_data]; exact h4
  have hn := nm_none h1 h2 h3 h4
  clear h1 h2 h3 h4
  go_enter Try.func19, Try.ntmps19
  go_wp2_with fail
  go_loop [22] (fun i => ∃ k : Nat, k ≤ 4 ∧ i = .int .i64 k) (fun i => 4 - intU i)
  case atStart => exact ⟨0, by omega, rfl⟩
  case round =>
    obtain ⟨k, hk, rfl⟩ := hrel
    obtain rfl | rfl | rfl | rfl | rfl : k = 0 ∨ k = 1 ∨ k = 2 ∨ k = 3 ∨ k = 4 := by omega
    · go_wp2_with fail
      go_round
      case rel => exact ⟨1, by omega, by go_num⟩
      case measure => simp [intU]
    · go_wp2_with fail
      go_round
      case rel => exact ⟨2, by omega, by go_num⟩
      case measure => simp [intU]
    · go_wp2_with fail
      go_round
      case rel => exact ⟨3, by omega, by go_num⟩
      case measure => simp [intU]
    · go_wp2_with fail
      go_round
      case rel => exact ⟨4, by omega, by go_num⟩
      case measure => simp [intU]
    · clear q1 q2 q3 q4 hk
      have P4 : Two ((((w.alloc (.cells #[.int .u64 0, .int .u64 0] 24)).alloc (.cells #[.string ⟨#[108, 101, 97, 115, 116]⟩, .string ⟨#[113, 117, 97, 114, 116, 101, 114]⟩, .string ⟨#[104, 97, 108, 102]⟩, .string ⟨#[109, 111, 115, 116]⟩] 52)).alloc (.cells #[.int .u64 0, .int .u64 1, .int .u64 1, .int .u64 4, .int .u64 1, .int .u64 2, .int .u64 1, .int .u64 1] 53)).alloc (.cells #[.int .u64 0, .int .u64 0] 24)) (w.heap.size + 1 + 1 + 1) (.int .u64 0) (.int .u64 0) := by
        have h := Two.new (((w.alloc (.cells #[.int .u64 0, .int .u64 0] 24)).alloc (.cells #[.string ⟨#[108, 101, 97, 115, 116]⟩, .string ⟨#[113, 117, 97, 114, 116, 101, 114]⟩, .string ⟨#[104, 97, 108, 102]⟩, .string ⟨#[109, 111, 115, 116]⟩] 52)).alloc (.cells #[.int .u64 0, .int .u64 1, .int .u64 1, .int .u64 4, .int .u64 1, .int .u64 2, .int .u64 1, .int .u64 1] 53)) (.int .u64 0) (.int .u64 0) 24
        simp only [World.size_alloc] at h
        exact h
      have T4 : Two ((((w.alloc (.cells #[.int .u64 0, .int .u64 0] 24)).alloc (.cells #[.string ⟨#[108, 101, 97, 115, 116]⟩, .string ⟨#[113, 117, 97, 114, 116, 101, 114]⟩, .string ⟨#[104, 97, 108, 102]⟩, .string ⟨#[109, 111, 115, 116]⟩] 52)).alloc (.cells #[.int .u64 0, .int .u64 1, .int .u64 1, .int .u64 4, .int .u64 1, .int .u64 2, .int .u64 1, .int .u64 1] 53)).alloc (.cells #[.int .u64 0, .int .u64 0] 24)) w.heap.size (.int .u64 0) (.int .u64 0) := (((Two.new w (.int .u64 0) (.int .u64 0) 24).alloc _).alloc _).alloc _
      have B4 : Below w.heap.size w ((((w.alloc (.cells #[.int .u64 0, .int .u64 0] 24)).alloc (.cells #[.string ⟨#[108, 101, 97, 115, 116]⟩, .string ⟨#[113, 117, 97, 114, 116, 101, 114]⟩, .string ⟨#[104, 97, 108, 102]⟩, .string ⟨#[109, 111, 115, 116]⟩] 52)).alloc (.cells #[.int .u64 0, .int .u64 1, .int .u64 1, .int .u64 4, .int .u64 1, .int .u64 2, .int .u64 1, .int .u64 1] 53)).alloc (.cells #[.int .u64 0, .int .u64 0] 24)) := ((((Below.refl _ _).alloc (Nat.le_refl _) _).alloc (by simp) _).alloc (by simp; omega) _).alloc (by simp; omega) _
      go_upto_block 2 with fail
      generalize ((((w.alloc (.cells #[.int .u64 0, .int .u64 0] 24)).alloc (.cells #[.string ⟨#[108, 101, 97, 115, 116]⟩, .string ⟨#[113, 117, 97, 114, 116, 101, 114]⟩, .string ⟨#[104, 97, 108, 102]⟩, .string ⟨#[109, 111, 115, 116]⟩] 52)).alloc (.cells #[.int .u64 0, .int .u64 1, .int .u64 1, .int .u64 4, .int .u64 1, .int .u64 2, .int .u64 1, .int .u64 1] 53)).alloc (.cells #[.int .u64 0, .int .u64 0] 24)) = W4 at *
      go_cut [8] (fun ok wc => ∃ (X Y : Int) (O : Bool), ok = .bool O ∧ Two wc (w.heap.size + 1 + 1 + 1) (.int .u64 X) (.int .u64 Y) ∧ Two wc w.heap.size (.int .u64 0) (.int .u64 0) ∧ Below w.heap.size w wc ∧ Left s.data.toList X Y O ∧ Word X ∧ Word Y)
      case first =>
        by_cases hsl : slash s.data.toList = -1
        · have LN := left_none hsl
          go_wp2_with fail
          go_loop [9, 8] (fun i ok => ∃ k : Nat, k ≤ s.size ∧ i = .int .i64 k ∧ ok = .bool false) (fun i _ => s.size - intU i)
          case atStart => exact ⟨0, Nat.zero_le _, rfl, rfl⟩
          case round =>
            obtain ⟨k, hk, rfl, rfl⟩ := hrel
            by_cases hp : k < s.size
            · have hb := byte_not s k hp (slash_none hsl k)
              have kk : (k : Int) < s.size := by omega
              go_wp2_with fail
              go_round
              case rel => exact ⟨k + 1, hp, by go_num, rfl⟩
              case measure => simp [intU]; omega
            · have kk : ¬ (k : Int) < s.size := by omega
              go_wp2_with fail
              go_meet
              exact ⟨0, 0, false, rfl, P4, T4, B4, LN, by unfold Word; omega, by unfold Word; omega⟩
        · obtain ⟨m, hm, hml, hmx⟩ := slash_some hsl
          have LS := left_some hm
          have HA := (slash_ahead hm).2
          rw [← Lib.size_eq] at hml
          have hbm := byte_is s m hml hmx
          have wX := num_word (s.data.toList.take m)
          have wY := num_word (s.data.toList.drop (m + 1))
          have RX := Lib.hid (fun w' => rnumber_of (s.extract 0 m) _ (ext_front s m) w')
          have RY := Lib.hid (fun w' => rnumber_of (s.extract (m + 1) s.size) _ (ext_back s (m + 1)) w')
          have PP := P4.put (.int .u64 (numV (s.data.toList.take m))) (.int .u64 (numV (s.data.toList.drop (m + 1))))
          have TP := T4.past (B' := (w.heap.size + 1 + 1 + 1)) (by omega) (.int .u64 (numV (s.data.toList.take m))) (.int .u64 (numV (s.data.toList.drop (m + 1))))
          have BP := below_put B4 (B := (w.heap.size + 1 + 1 + 1)) (by omega) (.int .u64 (numV (s.data.toList.take m))) (.int .u64 (numV (s.data.toList.drop (m + 1))))
          obtain ⟨c0, c1, c2, c3⟩ := id P4
          go_wp2_with fail
          go_loop [9, 8] (fun i ok => ∃ k : Nat, k ≤ m ∧ i = .int .i64 k ∧ ok = .bool false) (fun i _ => m - intU i)
          case atStart => exact ⟨0, Nat.zero_le _, rfl, rfl⟩
          case round =>
            obtain ⟨k, hk, rfl, rfl⟩ := hrel
            by_cases hp : k < m
            · have hb := byte_not s k (by omega) (HA k hp)
              have hks : k < s.size := by omega
              have kk : (k : Int) < s.size := by omega
              go_wp2_with fail
              go_round
              case rel => exact ⟨k + 1, hp, by go_num, rfl⟩
              case measure => simp [intU]; omega
            · obtain rfl : k = m := by omega
              have kk : (k : Int) < s.size := by omega
              have x1 : (0 : Int) ≤ (k : Int) := by omega
              have x2 : (k : Int) ≤ s.size := by omega
              have x3 : (0 : Int) ≤ (k : Int) + 1 := by omega
              have x4 : (k : Int) + 1 ≤ s.size := by omega
              have x5 : (k : Int) + 1 < 9223372036854775808 := by omega
              clear HA hmx hsl
              go_wp2_with fail
              refine (RX.out _).mono ?_
              rintro e w' ⟨rfl, rfl⟩
              go_wp2_with fail
              refine (RY.out _).mono ?_
              rintro e w' ⟨rfl, rfl⟩
              cases hX : numO (s.data.toList.take k) with
              | false =>
                rw [hX] at LS
                go_wp2_with fail
                go_meet
                exact ⟨_, _, false, rfl, PP, TP, BP, LS, wX, wY⟩
              | true =>
                rw [hX] at LS
                go_wp2_with fail
                go_meet
                exact ⟨_, _, _, rfl, PP, TP, BP, LS, wX, wY⟩
      case rest =>
        obtain ⟨X, Y, O, rfl, PC, TC, BC, LC, wX, wY⟩ := hcut
        clear P4 T4 B4
        rcases pc_cases s with ⟨hz, hp⟩ | ⟨m, hm, hz, ⟨hp, hF, hb⟩ | ⟨hp, hb⟩⟩
        · have kk : ¬ (0 : Int) < s.size := by omega
          obtain ⟨hO, hXY⟩ := LC hp
          cases ho : O with
          | false =>
            have E := Lib.hid (rd_bad hn (by unfold gdO; rw [← hO, ho]; rfl))
            obtain ⟨d0, d1, d2, d3⟩ := id TC
            obtain ⟨e0, e1, e2, e3⟩ := id PC
            go_wp2_with fail
            refine bodyPost_ret (v := .tuple #[.agg #[.int .u64 0, .int .u64 0], .bool false]) (by simp [results, Try.results19, go_sem, d0, d1]) rfl ⟨ret_read E.out.1.symm E.out.2.1.symm E.out.2.2.symm, below_put BC (Nat.le_refl _) _ _⟩
          | true =>
            have XY := hXY ho
            obtain ⟨e0, e1, e2, e3⟩ := id PC
            cases hg : gdB X Y with
            | false =>
              have G := Lib.hid hg
              have E := Lib.hid (rd_bad hn (by unfold gdO; rw [← XY.1, ← XY.2, hg, Bool.and_false]))
              clear XY hXY hO LC ho hg
              go_wp2_with fail
              refine (rgood_any _ _ wX wY _).mono ?_
              rw [G.out]
              rintro e wZ ⟨rfl, hbZ⟩
              obtain ⟨d0, d1, d2, d3⟩ := TC.call hbZ
              have BZ := BC.trans (hbZ.mono BC.size)
              go_wp2_with fail
              refine bodyPost_ret (v := .tuple #[.agg #[.int .u64 0, .int .u64 0], .bool false]) (by simp [results, Try.results19, go_sem, d0, d1]) rfl ⟨ret_read E.out.1.symm E.out.2.1.symm E.out.2.2.symm, below_put BZ (Nat.le_refl _) _ _⟩
            | true =>
              have G := Lib.hid hg
              have E := Lib.hid (rd_good hn (by unfold gdO; rw [← XY.1, ← XY.2, hg, Bool.and_true]; rw [← hO, ho]))
              rw [← XY.1, ← XY.2] at E
              clear XY hXY hO LC ho hg
              go_wp2_with fail
              refine (rgood_any _ _ wX wY _).mono ?_
              rw [G.out]
              rintro e wZ ⟨rfl, hbZ⟩
              obtain ⟨d0, d1, d2, d3⟩ := TC.call hbZ
              obtain ⟨g0, g1, g2, g3⟩ := PC.call hbZ
              have BZ := BC.trans (hbZ.mono BC.size)
              clear e0 e1 e2 e3
              go_wp2_with fail
              refine bodyPost_ret (v := .tuple #[.agg #[.int .u64 X, .int .u64 Y], .bool true]) (by simp [results, Try.results19, go_sem, d0, d1]) rfl ⟨ret_read E.out.1.symm E.out.2.1.symm E.out.2.2.symm, below_put BZ (Nat.le_refl _) _ _⟩
        · have kk : (0 : Int) < s.size := by omega
          have kz : (s.size : Int) = m + 1 := by omega
          have E3 := ct_pc hp
          rw [hF] at E3
          have wV := num_word (s.data.toList.take m)
          have w100 : Word 100 := by unfold Word; omega
          have RF := Lib.hid (fun w' => rnumber_of (s.extract 0 m) _ (ext_front s m) w')
          have PP := PC.put (.int .u64 (numV (s.data.toList.take m))) (.int .u64 100)
          have TP := TC.past (B' := (w.heap.size + 1 + 1 + 1)) (by omega) (.int .u64 (numV (s.data.toList.take m))) (.int .u64 100)
          have BP := below_put BC (B := (w.heap.size + 1 + 1 + 1)) (by omega) (.int .u64 (numV (s.data.toList.take m))) (.int .u64 100)
          obtain ⟨c0, c1, c2, c3⟩ := id PC
          go_wp2_with fail
          refine (RF.out _).mono ?_
          rintro e w' ⟨rfl, rfl⟩
          cases ho : numO (s.data.toList.take m) with
          | false =>
            have E := Lib.hid (rd_bad hn (by unfold gdO; rw [E3.2.2, ho]; rfl))
            obtain ⟨d0, d1, d2, d3⟩ := id TP
            obtain ⟨e0, e1, e2, e3⟩ := id PP
            go_wp2_with fail
            refine bodyPost_ret (v := .tuple #[.agg #[.int .u64 0, .int .u64 0], .bool false]) (by simp [results, Try.results19, go_sem, d0, d1]) rfl ⟨ret_read E.out.1.symm E.out.2.1.symm E.out.2.2.symm, below_put BP (Nat.le_refl _) _ _⟩
          | true =>
            have XY := (⟨E3.1.symm, E3.2.1.symm⟩ : numV (s.data.toList.take m) = ctA s.data.toList ∧ (100 : Int) = ctB s.data.toList)
            obtain ⟨e0, e1, e2, e3⟩ := id PP
            cases hg : gdB (numV (s.data.toList.take m)) 100 with
            | false =>
              have G := Lib.hid hg
              have E := Lib.hid (rd_bad hn (by unfold gdO; rw [← XY.1, ← XY.2, hg, Bool.and_false]))
              clear XY E3 LC ho hg
              go_wp2_with fail
              refine (rgood_any _ _ wV w100 _).mono ?_
              rw [G.out]
              rintro e wZ ⟨rfl, hbZ⟩
              obtain ⟨d0, d1, d2, d3⟩ := TP.call hbZ
              have BZ := BP.trans (hbZ.mono BP.size)
              go_wp2_with fail
              refine bodyPost_ret (v := .tuple #[.agg #[.int .u64 0, .int .u64 0], .bool false]) (by simp [results, Try.results19, go_sem, d0, d1]) rfl ⟨ret_read E.out.1.symm E.out.2.1.symm E.out.2.2.symm, below_put BZ (Nat.le_refl _) _ _⟩
            | true =>
              have G := Lib.hid hg
              have E := Lib.hid (rd_good hn (by unfold gdO; rw [← XY.1, ← XY.2, hg, Bool.and_true]; rw [E3.2.2, ho]))
              rw [← XY.1, ← XY.2] at E
              clear XY E3 LC ho hg
              go_wp2_with fail
              refine (rgood_any _ _ wV w100 _).mono ?_
              rw [G.out]
              rintro e wZ ⟨rfl, hbZ⟩
              obtain ⟨d0, d1, d2, d3⟩ := TP.call hbZ
              obtain ⟨g0, g1, g2, g3⟩ := PP.call hbZ
              have BZ := BP.trans (hbZ.mono BP.size)
              clear e0 e1 e2 e3
              go_wp2_with fail
              refine bodyPost_ret (v := .tuple #[.agg #[.int .u64 (numV (s.data.toList.take m)), .int .u64 100], .bool true]) (by simp [results, Try.results19, go_sem, d0, d1]) rfl ⟨ret_read E.out.1.symm E.out.2.1.symm E.out.2.2.symm, below_put BZ (Nat.le_refl _) _ _⟩
        · have kk : (0 : Int) < s.size := by omega
          have kz : (s.size : Int) = m + 1 := by omega
          obtain ⟨hO, hXY⟩ := LC hp
          cases ho : O with
          | false =>
            have E := Lib.hid (rd_bad hn (by unfold gdO; rw [← hO, ho]; rfl))
            obtain ⟨d0, d1, d2, d3⟩ := id TC
            obtain ⟨e0, e1, e2, e3⟩ := id PC
            go_wp2_with fail
            refine bodyPost_ret (v := .tuple #[.agg #[.int .u64 0, .int .u64 0], .bool false]) (by simp [results, Try.results19, go_sem, d0, d1]) rfl ⟨ret_read E.out.1.symm E.out.2.1.symm E.out.2.2.symm, below_put BC (Nat.le_refl _) _ _⟩
          | true =>
            have XY := hXY ho
            obtain ⟨e0, e1, e2, e3⟩ := id PC
            cases hg : gdB X Y with
            | false =>
              have G := Lib.hid hg
              have E := Lib.hid (rd_bad hn (by unfold gdO; rw [← XY.1, ← XY.2, hg, Bool.and_false]))
              clear XY hXY hO LC ho hg
              go_wp2_with fail
              refine (rgood_any _ _ wX wY _).mono ?_
              rw [G.out]
              rintro e wZ ⟨rfl, hbZ⟩
              obtain ⟨d0, d1, d2, d3⟩ := TC.call hbZ
              have BZ := BC.trans (hbZ.mono BC.size)
              go_wp2_with fail
              refine bodyPost_ret (v := .tuple #[.agg #[.int .u64 0, .int .u64 0], .bool false]) (by simp [results, Try.results19, go_sem, d0, d1]) rfl ⟨ret_read E.out.1.symm E.out.2.1.symm E.out.2.2.symm, below_put BZ (Nat.le_refl _) _ _⟩
            | true =>
              have G := Lib.hid hg
              have E := Lib.hid (rd_good hn (by unfold gdO; rw [← XY.1, ← XY.2, hg, Bool.and_true]; rw [← hO, ho]))
              rw [← XY.1, ← XY.2] at E
              clear XY hXY hO LC ho hg
              go_wp2_with fail
              refine (rgood_any _ _ wX wY _).mono ?_
              rw [G.out]
              rintro e wZ ⟨rfl, hbZ⟩
              obtain ⟨d0, d1, d2, d3⟩ := TC.call hbZ
              obtain ⟨g0, g1, g2, g3⟩ := PC.call hbZ
              have BZ := BC.trans (hbZ.mono BC.size)
              clear e0 e1 e2 e3
              go_wp2_with fail
              refine bodyPost_ret (v := .tuple #[.agg #[.int .u64 X, .int .u64 Y], .bool true]) (by simp [results, Try.results19, go_sem, d0, d1]) rfl ⟨ret_read E.out.1.symm E.out.2.1.symm E.out.2.2.symm, below_put BZ (Nat.le_refl _) _ _⟩

set_option maxRecDepth 1000000 in
set_option maxHeartbeats 4000000 in
theorem rread_any (s : ByteArray) (hs : s.size ≤ 9223372036854775807)  (w : World) :
    Calls Try.prog 19 #[.string s] w fun e w' =>
      e = .returned (.tuple #[.agg #[.int .u64 (rdA s.data.toList), .int .u64 (rdB s.data.toList)], .bool (rdO s.data.toList)]) ∧ Below w.heap.size w w' := by
  cases h1 : nm1 s.data.toList with
  | true => exact rname1 s hs h1 w
  | false =>
    cases h2 : nm2 s.data.toList with
    | true => exact rname2 s hs h1 h2 w
    | false =>
      cases h3 : nm3 s.data.toList with
      | true => exact rname3 s hs h1 h2 h3 w
      | false =>
        cases h4 : nm4 s.data.toList with
        | true => exact rname4 s hs h1 h2 h3 h4 w
        | false => exact rplain s hs h1 h2 h3 h4 w
end Go.Proofs.Ytbllnhkfnbadgaa
