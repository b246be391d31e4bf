/-
  Walk: the landed code of runs: Get.
-/
import Derived.Test.YtllnbbfeplgjjaaRunsM
import Derived.Test.YtllnbbfeplgjjaaRunsP
import Derived.Test.YtllnbbfeplgjjaaRunsN
namespace Go.Proofs.Ytllnbbfeplgjjaa
set_option linter.unusedVariables false
set_option linter.unusedSimpArgs false
open Go.RowKit

theorem cS_size (s : ByteArray) (bad : Bool) : (cS s bad).size ≤ s.size := by
  unfold cS; split
  · exact Nat.zero_le _
  · exact nS_size s bad _
/-- What the pair behind a row comes to. -/
def Nexts (w : World) (B : Nat) (t : ByteArray) (bd : Bool) (M : List PairV) (e : Ending) (w' : World) : Prop :=
  ∃ (i c : Int) (t2 : ByteArray) (b2 : Bool), e = .returned (.agg #[.int .i64 i, .int .u64 c]) ∧ I64 i ∧ Word c ∧ Eye w' B t2 b2 ∧ t2.size ≤ t.size ∧ w.grownBy w' (some B) ∧
    (b2 = false → ∃ x k : Nat, c = k ∧ 1 ≤ k ∧ k ≤ 9223372036854775807 ∧ headN M M.length i = x ∧ t.data.toList = natB x ++ (natB k ++ t2.data.toList)) ∧
    (bd = false → b2 = true → ∀ x c r, x < 18446744073709551616 → 1 ≤ c → c ≤ 9223372036854775807 → t.data.toList ≠ natB x ++ (natB c ++ r))
theorem next_any (w : World) (B base : Nat) (t : ByteArray) (bd : Bool) (v : Value) (M : List PairV) (hs : t.size ≤ 100000) (h : Eye w B t bd) (hM : OwnP w base v M) (ok : ∀ p, p ∈ M → okP p) (hB : B < base) (hl : M.length ≤ 100000) :
    Calls Try.prog 39 #[.pointer (some ⟨B, 0, none⟩), v] w (Nexts w B t bd M) := by
  have hz : (cS (nS t bd 18446744073709551615) (gone t bd 18446744073709551615)).size ≤ t.size := Nat.le_trans (cS_size _ _) (nS_size _ _ _)
  have hv := nV_word t bd 18446744073709551615
  have hc := nV_word (nS t bd 18446744073709551615) (gone t bd 18446744073709551615) 9223372036854775807
  have hbad : bd = false → cgone (nS t bd 18446744073709551615) (gone t bd 18446744073709551615) = true → ∀ x c r, x < 18446744073709551616 → 1 ≤ c → c ≤ 9223372036854775807 → t.data.toList ≠ natB x ++ (natB c ++ r) := by
    rintro rfl h x c r hx h1 h2; exact step_bad h x c r hx h1 h2
  rcases List.eq_nil_or_concat M with rfl | ⟨M', q, hq⟩
  · obtain ⟨A, cap, rfl⟩ := hM.form
    refine (next_first w B t bd A cap hs h).mono ?_
    rintro e w' ⟨rfl, hE, hG⟩
    refine ⟨_, _, _, _, rfl, zag_i64 hv, hc, hE, hz, hG, fun hb => ?_, hbad⟩
    obtain ⟨_, x, c, hx, hx2, hcc, h1, h2, h3⟩ := step_ok hb
    refine ⟨x, c, hcc, h1, h2, ?_, h3⟩
    show (zig (zag (nV t bd 18446744073709551615))).toNat = x
    rw [zig_zag hv, hx, Int.toNat_natCast]
  · rw [List.concat_eq_append] at hq
    subst hq
    obtain ⟨A, cap, rfl, hP⟩ := hM.pairs ok
    have hA : ∀ b off, A = some ⟨b, off, none⟩ → b ≠ B := by
      rintro b off rfl rfl
      have h2 : OwnP w base (.slice (some ⟨b, off, none⟩) (M' ++ [q]).length cap) (M' ++ [q]) := hM
      rcases h2.2 with ⟨h3, _⟩ | ⟨g, cap', cur, h3, h4, _⟩
      · cases h3
      · injection h3 with h5 _ _
        have h6 := (Addr.mk.inj (Option.some.inj h5)).1
        omega
    refine (next_more w B t bd A cap _ (M' ++ [q]) q hs h hP hA rfl hl (by simp)).mono ?_
    rintro e w' ⟨rfl, hE, hG⟩
    refine ⟨_, _, _, _, rfl, next_i64 _ _, hc, hE, hz, hG, fun hb => ?_, hbad⟩
    obtain ⟨_, x, c, hx, hx2, hcc, h1, h2, h3⟩ := step_ok hb
    refine ⟨x, c, hcc, h1, h2, ?_, h3⟩
    unfold headN
    rw [if_neg (by simp), hx]
    have e : idxAt (M' ++ [q]) ((M' ++ [q]).length - 1) = q.1 := by unfold idxAt; simp
    rw [e]; exact far_next hx2

/-- How long a slice is. -/
def lenOf : Value → Nat
  | .slice _ n _ => n
  | _ => 0
theorem own_len {w : World} {base : Nat} {v : Value} {L : List PairV} (h : OwnP w base v L) : lenOf v = L.length := by
  obtain ⟨A, cap, rfl⟩ := h.form; rfl

/-- That there is no row to be got. -/
def NoneOf (s : List UInt8) (bad : Bool) (most : Int) : Prop := bad = true ∨ ∀ L t, ¬ RowOf s most L t
theorem none_gone {s : ByteArray} {bad : Bool} {most : Int} (hm : I64 most) (h : gone s bad (sm most) = true) : NoneOf s.data.toList bad most := by
  cases bad with
  | true => exact Or.inl rfl
  | false =>
    refine Or.inr fun L t hr => ?_
    obtain ⟨_, _, h3, h4⟩ := hr
    have hl : L.length < 18446744073709551616 ∧ L.length ≤ sm most := by unfold I64 at hm; unfold sm; omega
    have e := (eye_got (t := s) (m := sm most) hl.1 hl.2 (r := bodyB L ++ t) (by rw [h4]; unfold rowB; rw [List.append_assoc])).1
    rw [h] at e; cases e
theorem none_row {s : ByteArray} {bad : Bool} {most : Int} {n : Nat} (hm : I64 most) (h : gone s bad (sm most) = false) (hn : nV s bad (sm most) = n) (hr : NoRow (nS s bad (sm most)).data.toList n) : NoneOf s.data.toList bad most := by
  refine Or.inr fun L t hrow => ?_
  obtain ⟨h1, h2, h3, h4⟩ := hrow
  have hl : L.length < 18446744073709551616 ∧ L.length ≤ sm most := by unfold I64 at hm; unfold sm; omega
  obtain ⟨rfl, _⟩ := eye_inv h
  obtain ⟨_, e2, e3⟩ := eye_got (t := s) (m := sm most) hl.1 hl.2 (r := bodyB L ++ t) (by rw [h4]; unfold rowB; rw [List.append_assoc])
  exact hr L t h1 h2 (by omega) e3
theorem none_low {s : List UInt8} {bad : Bool} {most : Int} (h : most < 0) : NoneOf s bad most :=
  Or.inr fun L t hr => by have := hr.2.2.1; omega
theorem bodyB_two (L : List PairV) : 2 * L.length ≤ (bodyB L).length := by
  have hh : ∀ (L : List PairV) (a : Int), 2 * L.length ≤ (tailB a L).length := by
    intro L
    induction L with
    | nil => intro a; exact Nat.le_refl _
    | cons p r ih =>
      intro a
      have h1 := natB_pos (farP a p.1)
      have h2 := natB_pos p.2.toNat
      have h3 := ih p.1
      simp only [tailB, List.length_append, List.length_cons]; omega
  cases L with
  | nil => exact Nat.le_refl _
  | cons p r =>
    have h1 := natB_pos (zig p.1).toNat
    have h2 := natB_pos p.2.toNat
    have h3 := hh r p.1
    simp only [bodyB, List.length_append, List.length_cons]; omega

/-- What holds of a row that is got, round by round. -/
structure Got (w : World) (B : Nat) (s0 : ByteArray) (n : Nat) (N : Prop) (wr : World) (v : Value) (M : List PairV) (t : ByteArray) (bd : Bool) : Prop where
  own : OwnP wr w.heap.size v M
  ok : ∀ p, p ∈ M → okP p
  eye : Eye wr B t bd
  grown : w.grownBy wr (some B)
  most : M.length ≤ n
  small : M.length ≤ 5001
  left : t.size ≤ 10000
  fine : bd = false → s0.data.toList = bodyB M ++ t.data.toList ∧ M.length ≤ 5000
  none : bd = true → N

set_option maxRecDepth 100000 in
set_option maxHeartbeats 2000000 in
theorem get_does : GetDoes := by
  intro w B s bad most h hs hm
  have HM := Lib.hid hm
  have hBw := h.lt
  have C0 := eye_small w B s bad most hm (by omega) h
  have hnv := nV_word s bad (sm most)
  have hnm := nV_most s bad (sm most)
  have hss := nS_size s bad (sm most)
  have N1 : gone s bad (sm most) = true → NoneOf s.data.toList bad most := none_gone hm
  have N2 : ∀ n : Nat, nV s bad (sm most) = n → gone s bad (sm most) = false → NoRow (nS s bad (sm most)).data.toList n → NoneOf s.data.toList bad most := fun n h1 h2 h3 => none_row hm h2 h1 h3
  have N3 : gone s bad (sm most) = true → nV s bad (sm most) = 0 := fun h => by unfold nV; rw [h]; rfl
  have N4 : ∀ n : Nat, nV s bad (sm most) = n → gone s bad (sm most) = false → bad = false ∧ s.data.toList = natB n ++ (nS s bad (sm most)).data.toList := fun n h1 h2 => by
    obtain ⟨a, k, k1, _, _, k2⟩ := eye_inv h2
    have : k = n := by omega
    exact ⟨a, this ▸ k2⟩
  obtain ⟨n, hn⟩ : ∃ n : Nat, nV s bad (sm most) = n := ⟨(nV s bad (sm most)).toNat, by unfold Word at hnv; omega⟩
  have N2 := N2 n hn
  have N4 := N4 n hn
  rw [hn] at C0 hnv hnm N3
  have hnm2 : (n : Int) ≤ max most 0 := by unfold sm at hnm; omega
  have hnw : (n : Int) ≤ 9223372036854775807 := by unfold I64 at hm; omega
  obtain ⟨s0, hs0⟩ : ∃ s0, nS s bad (sm most) = s0 := ⟨_, rfl⟩
  obtain ⟨g0, hg0⟩ : ∃ g0, gone s bad (sm most) = g0 := ⟨_, rfl⟩
  rw [hs0, hg0] at C0 N2 N4
  rw [hg0] at N1 N3
  rw [hs0] at hss
  have hs0z : s0.size ≤ 10000 := by omega
  obtain ⟨N, hN⟩ : ∃ N, NoneOf s.data.toList bad most = N := ⟨_, rfl⟩
  have HN := Lib.hid hN
  rw [hN] at N1 N2
  have H0 := Lib.hid C0
  have K1 := Lib.hid N1
  have K2 := Lib.hid N2
  have K3 := Lib.hid N3
  have K4 := Lib.hid N4
  have KM := Lib.hid hnm2
  clear C0 N1 N2 N3 N4 hn hs0 hg0 hN hnm2 hnv hnm hss h
  go_enter Try.func21, Try.ntmps21
  go_wp2_with fail
  refine H0.out.mono ?_
  rintro e w1 ⟨rfl, hE1, hG1⟩
  go_wp2_with fail
  go_loopw [6] (fun v wr => ∃ M t bd, Got w B s0 n N wr v M t bd ∧ (bd = false → g0 = false)) (fun v _ => n - lenOf v)
  case atStart =>
    refine ⟨[], s0, g0, ⟨OwnP.nil _ _, (fun p hp => (by cases hp)), hE1, hG1, Nat.zero_le _, Nat.zero_le _, hs0z, (fun _ => ⟨rfl, Nat.zero_le _⟩), K1.out⟩, id⟩
  case round =>
    clear hE1 hG1
    obtain ⟨M, t, bd, hg, hgg⟩ := hrel
    have HGot := Lib.hid hg
    have HGG := Lib.hid hgg
    obtain ⟨A, cap, rfl⟩ := hg.own.form
    have hE := hg.eye
    have hml := hg.small
    have htl := hg.left
    clear hg hgg
    by_cases hlt : (M.length : Int) < n
    · cases bd with
      | true =>
        go_wp2_with fail
        refine (bad_any _ _ _ _ hE).mono ?_
        rintro e w' ⟨rfl, rfl⟩
        go_wp2_with fail
        refine (bad_any _ _ _ _ hE).mono ?_
        rintro e w' ⟨rfl, rfl⟩
        go_wp2_with fail
        refine (shut_any _ _ _ _ hE).mono ?_
        rintro e w2 ⟨rfl, hE2, hG2⟩
        go_wp2_with fail
        go_ret
        exact ⟨grown_trans HGot.out.grown hG2, Or.inr ⟨none, 0, rfl, HN.out.mpr (HGot.out.none rfl), hE2⟩⟩
      | false =>
        have hfine := (HGot.out.fine rfl).2
        go_wp2_with fail
        refine (bad_any _ _ _ _ hE).mono ?_
        rintro e w' ⟨rfl, rfl⟩
        go_wp2_with fail
        refine (next_any _ B w.heap.size t false _ M (by omega) hE HGot.out.own HGot.out.ok hBw (by omega)).mono ?_
        rintro e w2 ⟨i, c, t2, b2, rfl, hi, hc, hE2, hz2, hG2, hgood, hbad⟩
        have hown2 : OwnP w2 w.heap.size (.slice A M.length cap) M := HGot.out.own.other hG2 (by
          cases ho : (Value.slice A M.length cap).ownBlock with
          | none => exact Or.inl rfl
          | some g => exact Or.inr (fun e => by have h1 := (HGot.out.own.lt g ho).1; have := Option.some.inj e; omega))
        have hgr2 := grown_trans HGot.out.grown hG2
        have hsz2 := hgr2.size
        have HO2 := Lib.hid hown2
        have HR2 := Lib.hid hgr2
        have HE2 := Lib.hid hE2
        have HG2 := Lib.hid hgood
        have HB2 := Lib.hid hbad
        have HI := Lib.hid hi
        have HC := Lib.hid hc
        clear hown2 hgr2 hgood hbad hG2 hE hE2 hi hc
        go_wp2_with (at_builtin; refine wpList_append_pair rfl _ _ rfl w.heap.size _ _ w2.heap.size (i, c) rfl (HO2.out.alloc _) rfl ?c1 ?c2 ?c3 ?c4 ?_)
        case c3 => omega
        case c4 => first | omega | (simp; omega)
        intro v' w3 hown' hgrow
        have hv' := own_len hown'
        have hE3 : Eye w3 B t2 b2 := (HE2.out.alloc _).grown hgrow (fun e => by have h1 := (OwnP.lt HO2.out B e).1; omega)
        have hgr3 : w.grownBy w3 (some B) := grown_own (grown_alloc HR2.out _) hgrow (fun g hg => (OwnP.lt HO2.out g hg).1)
        have HV := Lib.hid hv'
        clear hgrow hv'
        go_wp2_with fail
        go_roundw
        case rel =>
          refine ⟨M ++ [(i, c)], t2, b2, ⟨hown', ?_, hE3, hgr3, by simp; omega, by simp; omega, by omega, ?_, ?_⟩, fun _ => HGG.out (by first | rfl | trivial)⟩
          · intro p hp
            rcases List.mem_append.1 hp with hp | hp
            · exact HGot.out.ok p hp
            · simp at hp; subst hp; exact ⟨HI.out, HC.out⟩
          · intro hb
            obtain ⟨x, k, rfl, k1, k2, hx, ht⟩ := HG2.out hb
            have hst := read_step (HGot.out.fine rfl).1 ht hx
            refine ⟨hst, ?_⟩
            have h2 := bodyB_two (M ++ [(i, (k : Int))])
            have h3 := congrArg List.length hst
            rw [List.length_append] at h3
            rw [Lib.size_eq] at hs0z
            omega
          · intro hb
            exact K2.out (HGG.out (by first | rfl | trivial)) (no_row HGot.out.ok (HGot.out.fine rfl).1 (by omega) (HB2.out (by first | rfl | trivial) hb))
        case measure => rw [HV.out]; simp [lenOf]; omega
    · have hln : M.length = n := by have := HGot.out.most; omega
      cases bd with
      | true =>
        go_wp2_with fail
        refine (bad_any _ _ _ _ hE).mono ?_
        rintro e w' ⟨rfl, rfl⟩
        go_wp2_with fail
        refine (shut_any _ _ _ _ hE).mono ?_
        rintro e w2 ⟨rfl, hE2, hG2⟩
        go_wp2_with fail
        go_ret
        exact ⟨grown_trans HGot.out.grown hG2, Or.inr ⟨none, 0, rfl, HN.out.mpr (HGot.out.none rfl), hE2⟩⟩
      | false =>
        obtain ⟨hf1, hf2⟩ := HGot.out.fine rfl
        obtain ⟨hb0, hs1⟩ := K4.out (HGG.out (by first | rfl | trivial))
        obtain ⟨A', cap', hA', hP⟩ := HGot.out.own.pairs HGot.out.ok
        injection hA' with hA1 _ hA2
        subst hA1 hA2
        obtain ⟨b, hb⟩ : ∃ b, (goodB M && decide ((M.length : Int) ≤ most)) = b := ⟨_, rfl⟩
        have HBB := Lib.hid hb
        have HF1 := Lib.hid hf1
        have HS1 := Lib.hid hs1
        have HB0 := Lib.hid hb0
        have HP := Lib.hid hP
        have HLN := Lib.hid hln
        clear hb hf1 hs1 hb0 hP hln
        go_wp2_with fail
        refine (bad_any _ _ _ _ hE).mono ?_
        rintro e w' ⟨rfl, rfl⟩
        go_wp2_with fail
        refine (good_big _ A cap M most b HP.out (by omega) HM.out HBB.out).mono ?_
        rintro e w2 ⟨rfl, hb2⟩
        have hE2 := hE.call hb2
        have hg2 := grown_call HGot.out.grown hb2
        have ho2 := HGot.out.own.call hb2
        cases b with
        | true =>
          have hgm : GoodP M ∧ (M.length : Int) ≤ most := by
            have := HBB.out
            rw [Bool.and_eq_true] at this
            exact ⟨goodB_true.1 this.1, of_decide_eq_true this.2⟩
          have HGM := Lib.hid hgm
          have HE2 := Lib.hid hE2
          clear hgm hE2 hE hb2
          go_wp2_with fail
          go_ret
          refine ⟨hg2, Or.inl ⟨_, M, t, rfl, HB0.out, ⟨HGM.out.1, HGot.out.ok, ?_, ?_⟩, ho2, HE2.out⟩⟩
          · have := HGM.out.2; omega
          · rw [HS1.out, HF1.out]; unfold rowB; rw [HLN.out, List.append_assoc]
        | false =>
          have hno : N := by
            rw [← HN.out]
            by_cases hmo : most < 0
            · exact none_low hmo
            · have h1 := HBB.out
              have h2 := KM.out
              have h3 := HLN.out
              rw [decide_eq_true (by omega), Bool.and_true] at h1
              rw [HN.out]
              exact K2.out (HGG.out (by first | rfl | trivial)) (no_good HGot.out.ok HF1.out HLN.out (goodB_false.1 h1))
          have HNO := Lib.hid hno
          clear hno hb2
          go_wp2_with fail
          refine (shut_any _ _ _ _ hE2).mono ?_
          rintro e w3 ⟨rfl, hE3, hG3⟩
          go_wp2_with fail
          go_ret
          exact ⟨grown_trans hg2 hG3, Or.inr ⟨none, 0, rfl, HN.out.mpr HNO.out, hE3⟩⟩
end Go.Proofs.Ytllnbbfeplgjjaa
