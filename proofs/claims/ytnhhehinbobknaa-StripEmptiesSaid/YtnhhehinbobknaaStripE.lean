/-
  The law StripEmpties, walked.
-/
import Derived.Test.YtnhhehinbobknaaStripC
import Derived.Test.YtnhhehinbobknaaCallO
namespace Go.Proofs.Ytnhhehinbobknaa
set_option linter.unusedVariables false
set_option linter.unusedSimpArgs false
open Go.RowKit

theorem Pairs.keeps {S : Nat → Prop} {w w' : World} {A : Option Addr} {L : List PairV} (h : Pairs w A L) (k : Keeps S w w') (hA : ∀ b off, A = some ⟨b, off, none⟩ → L ≠ [] → ¬ S b) : Pairs w' A L :=
  ⟨h.ok, fun i p hi => by
    obtain ⟨b, off, hb, hlt, c0, c1⟩ := h.at_ i p hi
    have hn := hA b off hb (fun e => by subst e; simp at hi)
    exact ⟨b, off, hb, Nat.lt_of_lt_of_le hlt k.size, k.cell hn c0, k.cell hn c1⟩⟩
theorem drop_first {L : List PairV} {k : Nat} {p : PairV} (h : L[k]? = some p) : firP (L.drop k) = p ∧ (L.drop k).isEmpty = false ∧ (L.drop k).tail = L.drop (k + 1) := by
  have hk : k < L.length := by
    rcases Nat.lt_or_ge k L.length with h1 | h1
    · exact h1
    · rw [List.getElem?_eq_none h1] at h; cases h
  have e : L.drop k = p :: L.drop (k + 1) := by
    rw [List.drop_eq_getElem_cons hk]
    rw [List.getElem?_eq_getElem hk] at h
    rw [Option.some.inj h]
  rw [e]
  exact ⟨rfl, rfl, rfl⟩

set_option maxRecDepth 100000 in
set_option maxHeartbeats 4000000 in
theorem sempties_walk {St : World → Nat → (Nat → Prop) → Int → List PairV → Prop} (D : StripDoes St) (w : World) (m : Int) (A : Option Addr) (cap : Nat) (L : List CallV) (hm : I64 m) (h : Scr w A L) (hl : L.length ≤ 140737488351232) :
    Calls Try.prog 5 #[.int .i64 m, .slice A L.length cap] w fun e w' => e = .returned (.bool true) ∧ Below w.heap.size w w' := by
  have HD := Lib.hid D
  have HP := Lib.hid h
  obtain ⟨m0, m1⟩ := hm
  clear D h
  by_cases hll : L.length ≤ 100
  · have q0 : ¬ (100 : Int) < L.length := by omega
    by_cases hmm : 1 ≤ m
    · by_cases hmx : m ≤ 4096
      · have q1 : ¬ m < 1 := by omega
        have q2 : ¬ 4096 < m := by omega
        go_enter Try.func5, Try.ntmps5
        go_wp2_with fail
        refine (salive_any HD.out _).mono ?_
        rintro e w0 ⟨rfl, b0⟩
        have z0 := b0.size
        go_wp2_with fail
        refine (HD.out.new _ m hmm hmx).mono ?_
        rintro e w1 ⟨B, S, rfl, h1, hs1, b1⟩
        have hb1 := b0.trans (b1.mono z0)
        have z1 := hb1.size
        have HC0 := Lib.hid h1
        have HS1 : Hid (∀ k, S k → w.heap.size ≤ k) := Lib.hid fun k hk => Nat.le_trans z0 (hs1 k hk)
        clear b1 hs1 h1
        go_wp2_with fail
        go_loopw [35] (fun j wr => ∃ (k : Nat) (S' : Nat → Prop) (R : List PairV), k ≤ L.length ∧ j = .int .i64 k ∧ St wr B S' m R ∧ R.length ≤ k ∧ (∀ x, S' x → w.heap.size ≤ x) ∧ Below w.heap.size w wr) (fun j _ => L.length - (intOf j).toNat)
        case atStart => exact ⟨0, S, [], Nat.zero_le _, rfl, HC0.out, Nat.le_refl _, HS1.out, hb1⟩
        case round =>
          clear hb1
          obtain ⟨k, S', R, hk, rfl, hcr, hRl, hsw, hb2⟩ := hrel
          have hbs := hb2.size
          have HCR := Lib.hid hcr
          have HSW := Lib.hid hsw
          have HCT := Lib.hid (HD.out.stp _ _ _ _ _ hcr)
          have hR9 : R.length ≤ 900 := by omega
          clear hcr hsw HC0 HS1
          by_cases hlt : k < L.length
          · have kk : (k : Int) < L.length := by omega
            have hxk : L[k]? = some L[k] := List.getElem?_eq_getElem hlt
            generalize hit : L[k] = x at *
            obtain ⟨xk, xi, xc⟩ := x
            obtain ⟨b1, off, rfl, hbl, c0, c1, c2⟩ := (HP.out.call hb2).at_ k _ hxk
            simp only at c0 c1 c2
            have hok := HP.out.ok _ (List.mem_of_getElem? hxk)
            have HOK := Lib.hid hok
            obtain ⟨⟨o1, o2⟩, ⟨o3, o4⟩, o5, o6⟩ := hok
            simp only at o1 o2 o3 o4 o5 o6
            clear hxk hit
            have HC1 := Lib.hid (HD.out.call HCR.out ((Below.refl _ _).alloc (Nat.le_refl _) (.cells #[.int .i64 xk, .int .i64 xi, .int .u64 xc] 47)))
            go_wp2_with fail
            refine (HD.out.add _ B S' m R xi xc HC1.out hR9 HOK.out.2.1 HOK.out.2.2).mono ?_
            rintro e w3 ⟨S3, rfl, h3, k3, hs3⟩
            have hb3 := k3.below (hb2.alloc hbs _) (by simp; omega) HSW.out
            have HS3 : Hid (∀ x, S3 x → w.heap.size ≤ x) := Lib.hid fun x hx => by
              rcases hs3 x hx with h | h
              · exact HSW.out x h
              · simp at h; omega
            have HRL : Hid ((stRow m R xi xc).length ≤ k + 1) := Lib.hid (Nat.le_trans (stRow_len m R xi xc) (by omega))
            have HC3 := Lib.hid h3
            clear h3 k3 hs3
            go_wp2_with fail
            go_roundw
            case rel => exact ⟨k + 1, S3, _, by omega, by go_num, HC3.out, HRL.out, HS3.out, hb3⟩
            case measure => simp [intOf]; omega
          · obtain rfl : k = L.length := by omega
            have kk : ¬ (L.length : Int) < L.length := by omega
            go_wp2_with fail
            refine (HD.out.pairs _ B S' m R HCR.out hR9).mono ?_
            rintro e w4 ⟨v, rfl, ho4, b4⟩
            obtain ⟨Av, cv, rfl, hp4⟩ := ho4.pairs HCT.out.ok
            have hb5 := hb2.trans (b4.mono hbs)
            have hbs5 := hb5.size
            have hc4 := HD.out.call HCR.out b4
            have hsl := HD.out.lt _ _ _ _ _ HCR.out
            have hne : ∀ b off, Av = some ⟨b, off, none⟩ → ∀ x, S' x → b ≠ x := fun b off e x hx hbx => by
              subst e
              have h1 := (ho4.lt b rfl).1
              have h2 := hsl x hx
              omega
            have HC4 := Lib.hid hc4
            have HP4 := Lib.hid hp4
            have HNE := Lib.hid hne
            clear ho4 hp4 hc4 hsl hne b4
            go_wp2_with fail
            go_loopw [50] (fun j wr => ∃ (k : Nat) (S3 : Nat → Prop), k ≤ R.length ∧ j = .int .i64 k ∧ St wr B S3 m (R.drop k) ∧ Pairs wr Av R ∧ (∀ x, S3 x → w.heap.size ≤ x) ∧ (∀ b off, Av = some ⟨b, off, none⟩ → R ≠ [] → ∀ x, S3 x → b ≠ x) ∧ Below w.heap.size w wr) (fun j _ => R.length - (intOf j).toNat)
            case atStart => exact ⟨0, S', Nat.zero_le _, rfl, HC4.out, HP4.out, HSW.out, fun b off e _ => HNE.out b off e, hb5⟩
            case round =>
              clear hb5
              obtain ⟨k, S3, hk, rfl, hcr, hpr, hsw, hne, hb2⟩ := hrel
              have hbs := hb2.size
              have HCR := Lib.hid hcr
              have HPR := Lib.hid hpr
              have HSW := Lib.hid hsw
              have HNE := Lib.hid hne
              have hR9' : Hid ((R.drop k).length ≤ 900) := Lib.hid (by rw [List.length_drop]; omega)
              clear hcr hpr hsw hne HC4 HP4
              by_cases hlt : k < R.length
              · have kk : (k : Int) < R.length := by omega
                have hxk : R[k]? = some R[k] := List.getElem?_eq_getElem hlt
                generalize hit : R[k] = p at *
                obtain ⟨px, pc⟩ := p
                have HDF := Lib.hid (drop_first hxk)
                have HXK := Lib.hid hxk
                clear hxk hit
                go_wp2_with fail
                refine (HD.out.first _ B S3 m _ HCR.out hR9'.out).mono ?_
                rintro e w5 ⟨S4, rfl, h5, k5, hs5⟩
                rw [HDF.out.1, HDF.out.2.1]
                rw [HDF.out.2.2] at h5
                have hb6 := k5.below hb2 hbs HSW.out
                have hbs6 := hb6.size
                have hp5 := HPR.out.keeps k5 (fun b off e hn hx => HNE.out b off e hn b hx rfl)
                have hpl : ∀ b off, Av = some ⟨b, off, none⟩ → R ≠ [] → b < wr.heap.size := fun b off e hn => by
                  obtain ⟨b', off', e', hl', _⟩ := HPR.out.at_ k _ HXK.out
                  rw [e] at e'
                  have := (Addr.mk.inj (Option.some.inj e')).1
                  omega
                have HNE5 : Hid (∀ b off, Av = some ⟨b, off, none⟩ → R ≠ [] → ∀ x, S4 x → b ≠ x) := Lib.hid fun b off e hn x hx => by
                  rcases hs5 x hx with h | h
                  · exact HNE.out b off e hn x h
                  · have := hpl b off e hn; omega
                have HSW5 : Hid (∀ x, S4 x → w.heap.size ≤ x) := Lib.hid fun x hx => by
                  rcases hs5 x hx with h | h
                  · exact HSW.out x h
                  · omega
                have HC6 := Lib.hid (HD.out.call h5 ((Below.refl _ _).alloc (Nat.le_refl _) (.cells #[.int .i64 px, .int .u64 pc] 30)))
                have hp6 := hp5.call ((Below.refl _ _).alloc (Nat.le_refl _) (.cells #[.int .i64 px, .int .u64 pc] 30))
                have HP6 := Lib.hid hp6
                have hb7 := hb6.alloc hbs6 (.cells #[.int .i64 px, .int .u64 pc] 30)
                obtain ⟨b1, off, rfl, hbl, c0, c1⟩ := hp5.at_ k _ HXK.out
                simp only at c0 c1
                clear h5 k5 hs5 hp5 hp6 hpl
                go_wp2_with fail
                go_quiet (fail)
                go_wp2_with fail
                go_roundw
                case rel => exact ⟨k + 1, S4, by omega, by go_num, HD.out.call HC6.out (below_drewM (Below.refl _ _) _), HP6.out.call (below_drewM (Below.refl _ _) _), HSW5.out, HNE5.out, below_drewM hb7 _⟩
                case measure => simp [intOf]; omega
              · obtain rfl : k = R.length := by omega
                have kk : ¬ (R.length : Int) < R.length := by omega
                rw [List.drop_length] at HCR
                go_wp2_with fail
                refine (HD.out.first _ B S3 m [] HCR.out (by simp)).mono ?_
                rintro e w5 ⟨S4, rfl, h5, k5, hs5⟩
                have hb6 := k5.below hb2 hbs HSW.out
                have hbs6 := hb6.size
                have HC5 := Lib.hid (HD.out.call (show St w5 B S4 m [] from h5) ((Below.refl _ _).alloc (Nat.le_refl _) (.cells #[.int .i64 0, .int .u64 0] 30)))
                have hb6' := hb6.alloc hbs6 (.cells #[.int .i64 0, .int .u64 0] 30)
                have hbs6' := hb6'.size
                simp only [firP, List.head?_nil, Option.getD_none, List.isEmpty_nil, Bool.not_true]
                clear h5 k5 hs5
                go_wp2_with fail
                refine (HD.out.total _ B S4 m [] HC5.out (by simp)).mono ?_
                rintro e w6 ⟨rfl, b6⟩
                have hc6 := HD.out.call HC5.out b6
                have hb7 := hb6'.trans (b6.mono hbs6')
                have hbs7 := hb7.size
                have hs0 : sumP [] = 0 := rfl
                rw [hs0]
                clear b6
                go_wp2_with fail
                refine (HD.out.len _ B S4 m [] hc6 (by simp)).mono ?_
                rintro e w7 ⟨rfl, b7⟩
                go_wp2_with fail
                go_ret
                exact ⟨rfl, hb7.trans (b7.mono hbs7)⟩
      · have q1 : ¬ m < 1 := by omega
        have q2 : 4096 < m := by omega
        go_enter Try.func5, Try.ntmps5
        go_wp2_with fail
        refine (salive_any HD.out _).mono ?_
        rintro e w0 ⟨rfl, b0⟩
        go_wp2_with fail
        go_ret
        exact ⟨rfl, b0⟩
    · have q1 : m < 1 := by omega
      go_enter Try.func5, Try.ntmps5
      go_wp2_with fail
      refine (salive_any HD.out _).mono ?_
      rintro e w0 ⟨rfl, b0⟩
      go_wp2_with fail
      go_ret
      exact ⟨rfl, b0⟩
  · have q0 : (100 : Int) < L.length := by omega
    go_enter Try.func5, Try.ntmps5
    go_wp2_with fail
    refine (salive_any HD.out _).mono ?_
    rintro e w0 ⟨rfl, b0⟩
    go_wp2_with fail
    go_ret
    exact ⟨rfl, b0⟩
end Go.Proofs.Ytnhhehinbobknaa
