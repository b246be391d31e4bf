/-
  The law StripFinds, walked.
-/
import Derived.Test.YtnhhehinbobknaaStripC
import Derived.Test.YtnhhehinbobknaaCallO
namespace Go.Proofs.Ytnhhehinbobknaa
set_option linter.unusedVariables false
set_option linter.unusedSimpArgs false
open Go.RowKit

theorem seek_mem8 (t : Int) : ∀ (L : List PairV) (s x : Int), seekP t s L = some x → ∃ p, p ∈ L ∧ p.1 = x := by
  intro L
  induction L with
  | nil => intro s x h; cases h
  | cons p r ih =>
    intro s x h
    unfold seekP at h
    split at h
    · exact ⟨p, by simp, Option.some.inj h⟩
    · obtain ⟨q, hq, e⟩ := ih _ x h
      exact ⟨q, List.mem_cons_of_mem _ hq, e⟩
theorem find_i64_8 {L : List PairV} (h : ∀ p, p ∈ L → okP p) (t : Int) : I64 ((findP L t).getD 0) := by
  unfold findP
  split
  · cases hf : seekP t 0 L with
    | none => exact ⟨by decide, by decide⟩
    | some x =>
      obtain ⟨p, hp, e⟩ := seek_mem8 t L 0 x hf
      subst e
      exact (h p hp).1
  · exact ⟨by decide, by decide⟩

set_option maxRecDepth 100000 in
set_option maxHeartbeats 4000000 in
theorem sfinds_walk {St : World → Nat → (Nat → Prop) → Int → List PairV → Prop} (D : StripDoes St) (w : World) (m : Int) (A : Option Addr) (cap : Nat) (L : List CallV) (t i : Int) (hm : I64 m) (h : Scr w A L) (hl : L.length ≤ 140737488351232) (ht : Word t) (hi : I64 i) :
    Calls Try.prog 4 #[.int .i64 m, .slice A L.length cap, .int .u64 t, .int .i64 i] w fun e w' => e = .returned (.bool true) ∧ Below w.heap.size w w' := by
  have HD := Lib.hid D
  have HP := Lib.hid h
  have HT := Lib.hid ht
  have HI := Lib.hid hi
  obtain ⟨m0, m1⟩ := hm
  obtain ⟨t0, t1⟩ := ht
  obtain ⟨i0, i1⟩ := hi
  clear D h
  by_cases hll : L.length ≤ 100
  · have q0 : ¬ (100 : Int) < L.length := by omega
    by_cases hmm : 1 ≤ m
    · by_cases hmx : m ≤ 4096
      · have q1 : ¬ m < 1 := by omega
        have q2 : ¬ 4096 < m := by omega
        go_enter Try.func4, Try.ntmps4
        go_wp2_with fail
        refine (salive_any HD.out _).mono ?_
        rintro e w0 ⟨rfl, b0⟩
        have z0 := b0.size
        go_wp2_with fail
        refine (HD.out.new _ m hmm hmx).mono ?_
        rintro e w1 ⟨B, S, rfl, h1, hs1, b1⟩
        have hb1 := b0.trans (b1.mono z0)
        have z1 := hb1.size
        have HC0 := Lib.hid h1
        have HS1 : Hid (∀ k, S k → w.heap.size ≤ k) := Lib.hid fun k hk => Nat.le_trans z0 (hs1 k hk)
        clear b1 hs1 h1
        go_wp2_with fail
        go_loopw [38] (fun j wr => ∃ (k : Nat) (S' : Nat → Prop) (R : List PairV), k ≤ L.length ∧ j = .int .i64 k ∧ St wr B S' m R ∧ R.length ≤ k ∧ (∀ x, S' x → w.heap.size ≤ x) ∧ Below w.heap.size w wr) (fun j _ => L.length - (intOf j).toNat)
        case atStart => exact ⟨0, S, [], Nat.zero_le _, rfl, HC0.out, Nat.le_refl _, HS1.out, hb1⟩
        case round =>
          clear hb1
          obtain ⟨k, S', R, hk, rfl, hcr, hRl, hsw, hb2⟩ := hrel
          have hbs := hb2.size
          have HCR := Lib.hid hcr
          have HSW := Lib.hid hsw
          have HCT := Lib.hid (HD.out.stp _ _ _ _ _ hcr)
          have hR9 : R.length ≤ 900 := by omega
          clear hcr hsw HC0 HS1
          by_cases hlt : k < L.length
          · have kk : (k : Int) < L.length := by omega
            have hxk : L[k]? = some L[k] := List.getElem?_eq_getElem hlt
            generalize hit : L[k] = x at *
            obtain ⟨xk, xi, xc⟩ := x
            obtain ⟨b1, off, rfl, hbl, c0, c1, c2⟩ := (HP.out.call hb2).at_ k _ hxk
            simp only at c0 c1 c2
            have hok := HP.out.ok _ (List.mem_of_getElem? hxk)
            have HOK := Lib.hid hok
            obtain ⟨⟨o1, o2⟩, ⟨o3, o4⟩, o5, o6⟩ := hok
            simp only at o1 o2 o3 o4 o5 o6
            clear hxk hit
            have HC1 := Lib.hid (HD.out.call HCR.out ((Below.refl _ _).alloc (Nat.le_refl _) (.cells #[.int .i64 xk, .int .i64 xi, .int .u64 xc] 47)))
            go_wp2_with fail
            refine (HD.out.add _ B S' m R xi xc HC1.out hR9 HOK.out.2.1 HOK.out.2.2).mono ?_
            rintro e w3 ⟨S3, rfl, h3, k3, hs3⟩
            have hb3 := k3.below (hb2.alloc hbs _) (by simp; omega) HSW.out
            have HS3 : Hid (∀ x, S3 x → w.heap.size ≤ x) := Lib.hid fun x hx => by
              rcases hs3 x hx with h | h
              · exact HSW.out x h
              · simp at h; omega
            have HRL : Hid ((stRow m R xi xc).length ≤ k + 1) := Lib.hid (Nat.le_trans (stRow_len m R xi xc) (by omega))
            have HC3 := Lib.hid h3
            clear h3 k3 hs3
            go_wp2_with fail
            go_roundw
            case rel => exact ⟨k + 1, S3, _, by omega, by go_num, HC3.out, HRL.out, HS3.out, hb3⟩
            case measure => simp [intOf]; omega
          · obtain rfl : k = L.length := by omega
            have kk : ¬ (L.length : Int) < L.length := by omega
            obtain ⟨x, hx⟩ : ∃ x, (findP R t).getD 0 = x := ⟨_, rfl⟩
            obtain ⟨fb, hfb⟩ : ∃ b, (findP R t).isSome = b := ⟨_, rfl⟩
            obtain ⟨n1, hn1⟩ : ∃ n, belowP R i = n := ⟨_, rfl⟩
            have hix : I64 x := hx ▸ find_i64_8 HCT.out.ok t
            have hb1 := below_le (L := R) i (ok_pos HCT.out.ok)
            have hsm := HCT.out.sum
            have HX := Lib.hid hx
            have HFB := Lib.hid hfb
            have HN1 := Lib.hid hn1
            have hn1l : n1 < 18446744073709551616 := by omega
            have HSL : Hid (sumP R < 18446744073709551616) := Lib.hid (by omega)
            have HRL : Hid (R.length ≤ 1000) := Lib.hid (by omega)
            obtain ⟨f0, f1⟩ := hix
            clear hx hfb hn1 hb1 hsm
            go_wp2_with fail
            refine (HD.out.pairs _ B S' m R HCR.out hR9).mono ?_
            rintro e w4 ⟨v, rfl, ho4, b4⟩
            obtain ⟨Av, cv, rfl, hp4⟩ := ho4.pairs HCT.out.ok
            have hc4 := HD.out.call HCR.out b4
            have hb5 := hb2.trans (b4.mono hbs)
            have hbs5 := hb5.size
            have HP4 := Lib.hid hp4
            have HC4 := Lib.hid hc4
            clear b4 ho4 hp4 hc4
            cases fb
            all_goals
              go_wp2_with fail
              refine (HD.out.find _ B S' m R t HC4.out hR9 HT.out).mono ?_
              rintro e w5 ⟨rfl, b5⟩
              rw [HX.out, HFB.out]
              have hc5 := HD.out.call HC4.out b5
              have hp5 := HP4.out.call b5
              have hb6 := hb5.trans (b5.mono hbs5)
              have hbs6 := hb6.size
              clear b5
              go_wp2_with fail
              refine (rfind_any _ Av cv R t x _ hp5 HRL.out HT.out HSL.out HX.out HFB.out).mono ?_
              rintro e w6 ⟨rfl, b6⟩
              have hc6 := HD.out.call hc5 b6
              have hp6 := hp5.call b6
              have hb7 := hb6.trans (b6.mono hbs6)
              have hbs7 := hb7.size
              clear b6 hc5 hp5
              go_wp2_with fail
              refine (HD.out.below _ B S' m R i hc6 hR9 HI.out).mono ?_
              rintro e w7 ⟨rfl, b7⟩
              rw [HN1.out]
              have hp7 := hp6.call b7
              have hb8 := hb7.trans (b7.mono hbs7)
              have hbs8 := hb8.size
              clear b7 hc6 hp6
              go_wp2_with fail
              refine (rbelow_any _ Av cv R i n1 hp7 HRL.out HI.out HN1.out hn1l).mono ?_
              rintro e w8 ⟨rfl, b8⟩
              have hb9 := hb8.trans (b8.mono hbs8)
              clear b8 hp7
              go_wp2_with fail
              go_ret
              exact ⟨rfl, hb9⟩
      · have q1 : ¬ m < 1 := by omega
        have q2 : 4096 < m := by omega
        go_enter Try.func4, Try.ntmps4
        go_wp2_with fail
        refine (salive_any HD.out _).mono ?_
        rintro e w0 ⟨rfl, b0⟩
        go_wp2_with fail
        go_ret
        exact ⟨rfl, b0⟩
    · have q1 : m < 1 := by omega
      go_enter Try.func4, Try.ntmps4
      go_wp2_with fail
      refine (salive_any HD.out _).mono ?_
      rintro e w0 ⟨rfl, b0⟩
      go_wp2_with fail
      go_ret
      exact ⟨rfl, b0⟩
  · have q0 : (100 : Int) < L.length := by omega
    go_enter Try.func4, Try.ntmps4
    go_wp2_with fail
    refine (salive_any HD.out _).mono ?_
    rintro e w0 ⟨rfl, b0⟩
    go_wp2_with fail
    go_ret
    exact ⟨rfl, b0⟩
end Go.Proofs.Ytnhhehinbobknaa
