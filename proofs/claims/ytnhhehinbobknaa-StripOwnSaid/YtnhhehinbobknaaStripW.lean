/-
  The law StripOwn, walked.
-/
import Derived.Test.YtnhhehinbobknaaStripC
import Derived.Test.YtnhhehinbobknaaCallO
import Derived.Test.YtnhhehinbobknaaRunsK
namespace Go.Proofs.Ytnhhehinbobknaa
set_option linter.unusedVariables false
set_option linter.unusedSimpArgs false
open Go.RowKit

/-- A block of pairs that may be written: its first n. -/
structure RowW (w : World) (A : Option Addr) (n : Nat) : Prop where
  at_ : ∀ k, k < n → ∃ g x c, A = some ⟨g, 0, none⟩ ∧ w.cell? ⟨g, k * 2, none⟩ = some x ∧ w.cell? ⟨g, k * 2 + 1, none⟩ = some c ∧ w.frozen? ⟨g, k * 2, none⟩ = false ∧ w.frozen? ⟨g, k * 2 + 1, none⟩ = false
theorem RowW.own {w : World} {base cap : Nat} {A : Option Addr} {L : List PairV} (h : OwnP w base (.slice A L.length cap) L) : RowW w A L.length := by
  refine ⟨fun k hk => ?_⟩
  have h' : w.ownsRow base 30 2 (.slice A L.length cap) L.length (cellsQ L) := h
  obtain ⟨g, cap', e⟩ : ∃ g cap', (Value.slice A L.length cap) = .slice (some ⟨g, 0, none⟩) L.length cap' := by
    rcases h'.2 with ⟨e, e0⟩ | ⟨g, cap', cur, e, _⟩
    · omega
    · exact ⟨g, cap', e⟩
  injection e with e1 _ e3
  subst e1
  have hxk : L[k]? = some L[k] := List.getElem?_eq_getElem hk
  obtain ⟨c0, c1⟩ := cellsQ_at L k _ hxk
  exact ⟨g, _, _, rfl, (h'.cellAt _ (by omega)).trans c0, (h'.cellAt _ (by omega)).trans c1, h'.frozenAt _, h'.frozenAt _⟩
theorem RowW.call {w w' : World} {A : Option Addr} {n : Nat} (h : RowW w A n) (hb : Below w.heap.size w w') : RowW w' A n :=
  ⟨fun k hk => by
    obtain ⟨g, x, c, hA, c0, c1, f0, f1⟩ := h.at_ k hk
    have hlt := World.block_lt_of_cell? (a := ⟨g, k * 2, none⟩) w c0
    exact ⟨g, x, c, hA, cell_later hb c0, cell_later hb c1, ((bcell hb).2 _ _ hlt).trans f0, ((bcell hb).2 _ _ hlt).trans f1⟩⟩
theorem RowW.other {w w' : World} {A : Option Addr} {n : Nat} {r : Option Nat} (h : RowW w A n) (hg : w.grownBy w' r) (hne : ∀ g, A = some ⟨g, 0, none⟩ → r ≠ some g) : RowW w' A n :=
  ⟨fun k hk => by
    obtain ⟨g, x, c, hA, c0, c1, f0, f1⟩ := h.at_ k hk
    have hlt := World.block_lt_of_cell? (a := ⟨g, k * 2, none⟩) w c0
    have hbl := hg.block g hlt (hne g hA).symm
    exact ⟨g, x, c, hA, (World.cell?_of_block (a := ⟨g, k * 2, none⟩) hbl).trans c0, (World.cell?_of_block (a := ⟨g, k * 2 + 1, none⟩) hbl).trans c1, (World.frozen?_of_block (a := ⟨g, k * 2, none⟩) hbl).trans f0, (World.frozen?_of_block (a := ⟨g, k * 2 + 1, none⟩) hbl).trans f1⟩⟩
theorem cell_put {w : World} {g o p : Nat} {x v : Value} (h : w.cell? ⟨g, o, none⟩ = some x) : ∃ y, (w.setCell ⟨g, p, none⟩ v).cell? ⟨g, o, none⟩ = some y := by
  by_cases e : o = p
  · subst e; exact ⟨v, World.cell?_setCell_same _ _ _ h⟩
  · exact ⟨x, by rw [World.cell?_setCell_other _ _ _ _ (two_off (Ne.symm e))]; exact h⟩
theorem RowW.put {w : World} {g n p : Nat} (h : RowW w (some ⟨g, 0, none⟩) n) (v : Value) : RowW (w.setCell ⟨g, p, none⟩ v) (some ⟨g, 0, none⟩) n :=
  ⟨fun k hk => by
    obtain ⟨g', x, c, hA, c0, c1, f0, f1⟩ := h.at_ k hk
    obtain rfl : g = g' := (Addr.mk.inj (Option.some.inj hA)).1
    obtain ⟨y0, d0⟩ := cell_put (p := p) (v := v) c0
    obtain ⟨y1, d1⟩ := cell_put (p := p) (v := v) c1
    exact ⟨g, y0, y1, rfl, d0, d1, by rw [World.frozen?_setCell]; exact f0, by rw [World.frozen?_setCell]; exact f1⟩⟩

set_option maxRecDepth 100000 in
set_option maxHeartbeats 4000000 in
theorem sown_walk {St : World → Nat → (Nat → Prop) → Int → List PairV → Prop} (D : StripDoes St) (w : World) (m : Int) (A : Option Addr) (cap : Nat) (L : List CallV) (n0 : Int) (hm : I64 m) (h : Scr w A L) (hl : L.length ≤ 140737488351232) (hn : Word n0) :
    Calls Try.prog 6 #[.int .i64 m, .slice A L.length cap, .int .u64 n0] w fun e w' => e = .returned (.bool true) ∧ Below w.heap.size w w' := by
  have HD := Lib.hid D
  have HP := Lib.hid h
  obtain ⟨m0, m1⟩ := hm
  clear D h
  by_cases hll : L.length ≤ 100
  · have q0 : ¬ (100 : Int) < L.length := by omega
    by_cases hmm : 1 ≤ m
    · by_cases hmx : m ≤ 4096
      · have q1 : ¬ m < 1 := by omega
        have q2 : ¬ 4096 < m := by omega
        go_enter Try.func6, Try.ntmps6
        go_wp2_with fail
        refine (salive_any HD.out _).mono ?_
        rintro e w0 ⟨rfl, b0⟩
        have z0 := b0.size
        go_wp2_with fail
        refine (HD.out.new _ m hmm hmx).mono ?_
        rintro e w1 ⟨B, S, rfl, h1, hs1, b1⟩
        have hb1 := b0.trans (b1.mono z0)
        have z1 := hb1.size
        have HC0 := Lib.hid h1
        have HS1 : Hid (∀ k, S k → w.heap.size ≤ k) := Lib.hid fun k hk => Nat.le_trans z0 (hs1 k hk)
        clear b1 hs1 h1
        go_wp2_with fail
        go_loopw [34] (fun j wr => ∃ (k : Nat) (S' : Nat → Prop) (R : List PairV), k ≤ L.length ∧ j = .int .i64 k ∧ St wr B S' m R ∧ R.length ≤ k ∧ (∀ x, S' x → w.heap.size ≤ x) ∧ Below w.heap.size w wr) (fun j _ => L.length - (intOf j).toNat)
        case atStart => exact ⟨0, S, [], Nat.zero_le _, rfl, HC0.out, Nat.le_refl _, HS1.out, hb1⟩
        case round =>
          clear hb1
          obtain ⟨k, S', R, hk, rfl, hcr, hRl, hsw, hb2⟩ := hrel
          have hbs := hb2.size
          have HCR := Lib.hid hcr
          have HSW := Lib.hid hsw
          have HCT := Lib.hid (HD.out.stp _ _ _ _ _ hcr)
          have hR9 : R.length ≤ 900 := by omega
          clear hcr hsw HC0 HS1
          by_cases hlt : k < L.length
          · have kk : (k : Int) < L.length := by omega
            have hxk : L[k]? = some L[k] := List.getElem?_eq_getElem hlt
            generalize hit : L[k] = x at *
            obtain ⟨xk, xi, xc⟩ := x
            obtain ⟨b1, off, rfl, hbl, c0, c1, c2⟩ := (HP.out.call hb2).at_ k _ hxk
            simp only at c0 c1 c2
            have hok := HP.out.ok _ (List.mem_of_getElem? hxk)
            have HOK := Lib.hid hok
            obtain ⟨⟨o1, o2⟩, ⟨o3, o4⟩, o5, o6⟩ := hok
            simp only at o1 o2 o3 o4 o5 o6
            clear hxk hit
            have HC1 := Lib.hid (HD.out.call HCR.out ((Below.refl _ _).alloc (Nat.le_refl _) (.cells #[.int .i64 xk, .int .i64 xi, .int .u64 xc] 47)))
            go_wp2_with fail
            refine (HD.out.add _ B S' m R xi xc HC1.out hR9 HOK.out.2.1 HOK.out.2.2).mono ?_
            rintro e w3 ⟨S3, rfl, h3, k3, hs3⟩
            have hb3 := k3.below (hb2.alloc hbs _) (by simp; omega) HSW.out
            have HS3 : Hid (∀ x, S3 x → w.heap.size ≤ x) := Lib.hid fun x hx => by
              rcases hs3 x hx with h | h
              · exact HSW.out x h
              · simp at h; omega
            have HRL : Hid ((stRow m R xi xc).length ≤ k + 1) := Lib.hid (Nat.le_trans (stRow_len m R xi xc) (by omega))
            have HC3 := Lib.hid h3
            clear h3 k3 hs3
            go_wp2_with fail
            go_roundw
            case rel => exact ⟨k + 1, S3, _, by omega, by go_num, HC3.out, HRL.out, HS3.out, hb3⟩
            case measure => simp [intOf]; omega
          · obtain rfl : k = L.length := by omega
            have kk : ¬ (L.length : Int) < L.length := by omega
            obtain ⟨t0, t1⟩ := hn
            go_wp2_with fail
            refine (HD.out.pairs _ B S' m R HCR.out hR9).mono ?_
            rintro e w4 ⟨v, rfl, ho4, b4⟩
            obtain ⟨Av, cv, rfl, hp4⟩ := ho4.pairs HCT.out.ok
            have hb5 := hb2.trans (b4.mono hbs)
            have hbs5 := hb5.size
            have z4 := b4.size
            have hsl := HD.out.lt _ _ _ _ _ HCR.out
            have HOW : Hid (∀ g, Av = some ⟨g, 0, none⟩ → wr.heap.size ≤ g ∧ g < w4.heap.size) := Lib.hid fun g hg => by subst hg; exact ho4.lt g rfl
            have HSL : Hid (∀ x, S' x → x < wr.heap.size) := Lib.hid hsl
            have HO0 : Hid (OwnP (w4.alloc (.cells #[] 30)) w4.heap.size (.slice (some ⟨w4.heap.size, 0, none⟩) 0 0) []) := Lib.hid (World.ownsRow_made w4 #[] 0 (Nat.le_refl _) (by decide) rfl)
            have k4 : Below w4.heap.size w4 (w4.alloc (.cells #[] 30)) := (Below.refl _ _).alloc (Nat.le_refl _) _
            have HP4 := Lib.hid (hp4.call k4)
            have HC4 := Lib.hid (HD.out.call (HD.out.call HCR.out b4) k4)
            have HR4 := Lib.hid ((RowW.own ho4).call k4)
            have HK4 := Lib.hid k4
            clear ho4 hp4 hsl b4 k4
            go_wp2_with (at_builtin; refine wpList_append_pairs rfl (.tmp 47) (.tmp 48) rfl w4.heap.size _ [] Av cv R rfl HO0.out rfl HP4.out ?c1 ?c2 ?_)
            case c1 => simp; omega
            case c2 => first | omega | (simp; done)
            intro v5 w5 hown5 hg5
            have k5 : Below w4.heap.size w4 w5 := HK4.out.grown hg5 (by simp) (fun k hk => by simp [Value.ownBlock] at hk; omega)
            have z5 := k5.size
            have hb6 := hb5.trans (k5.mono hbs5)
            have hg5' : ∀ x, x < w4.heap.size → w5.heap[x]? = (w4.alloc (.cells #[] 30)).heap[x]? := fun x hx => hg5.block x (by simp; omega) (fun e => by simp [Value.ownBlock] at e; omega)
            have HC5 := Lib.hid (HD.out.keep _ _ _ _ _ _ HC4.out fun x hx => hg5' x (by have := HSL.out x hx; omega))
            have HR5 := Lib.hid (HR4.out.other hg5 (fun g hg e => by have := (HOW.out g hg).2; simp [Value.ownBlock] at e; omega))
            have HO5 := Lib.hid hown5
            clear hown5 hg5 hg5' k5 HO0 HP4 HC4 HR4 HK4 hb5
            go_wp2_with fail
            go_loopw [52] (fun j wr => ∃ (k : Nat), k ≤ R.length ∧ j = .int .i64 k ∧ St wr B S' m R ∧ RowW wr Av R.length ∧ OwnP wr w4.heap.size v5 R ∧ Below w.heap.size w wr) (fun j _ => R.length - (intOf j).toNat)
            case atStart => exact ⟨0, Nat.zero_le _, rfl, HC5.out, HR5.out, HO5.out, hb6⟩
            case round =>
              clear hb6
              obtain ⟨k, hk, rfl, hcr, hrw, how, hb2⟩ := hrel
              have hbs := hb2.size
              have HCR := Lib.hid hcr
              have HRW := Lib.hid hrw
              have HO := Lib.hid how
              clear hcr hrw how
              by_cases hlt : k < R.length
              · have kk : (k : Int) < R.length := by omega
                obtain ⟨g, x, c, rfl, c0, c1, f0, f1⟩ := HRW.out.at_ k hlt
                obtain ⟨l0, l1⟩ := HOW.out g rfl
                have e0 : (wr.setCell ⟨g, k * 2 + 1, none⟩ (.int .u64 n0)).cell? ⟨g, k * 2, none⟩ = some x := by rw [World.cell?_setCell_other _ _ _ _ (two_off (by omega))]; exact c0
                have e1 : (wr.setCell ⟨g, k * 2 + 1, none⟩ (.int .u64 n0)).frozen? ⟨g, k * 2, none⟩ = false := by rw [World.frozen?_setCell]; exact f0
                have hg2 : wr.grownBy ((wr.setCell ⟨g, k * 2 + 1, none⟩ (.int .u64 n0)).setCell ⟨g, k * 2, none⟩ (.int .i64 0)) (some g) := grown_trans (grown_setCell _ _ _ _) (grown_setCell _ _ _ _)
                have HG2 := Lib.hid hg2
                clear hg2
                go_wp2_with fail
                go_roundw
                case rel =>
                  exact ⟨k + 1, by omega, by go_num, HD.out.keep _ _ _ _ _ _ HCR.out fun y hy => HG2.out.block y (HD.out.lt _ _ _ _ _ HCR.out y hy) (fun e => by have h1 := Option.some.inj e; have h2 := HSL.out y hy; omega),
                    (HRW.out.put _).put _, HO.out.other HG2.out (by
                      cases hb : v5.ownBlock with
                      | none => exact Or.inl rfl
                      | some q => exact Or.inr fun e => by have h1 := (HO.out.lt q hb).1; have h2 := Option.some.inj e; omega), grown_below' hb2 HG2.out (by omega) hbs⟩
                case measure => simp [intOf]; omega
              · obtain rfl : k = R.length := by omega
                have kk : ¬ (R.length : Int) < R.length := by omega
                obtain ⟨A5, c5, rfl, hp5⟩ := HO.out.pairs HCT.out.ok
                have HP5 := Lib.hid hp5
                clear hp5
                go_wp2_with fail
                refine (HD.out.pairs _ B S' m R HCR.out hR9).mono ?_
                rintro e w6 ⟨v6, rfl, ho6, b6⟩
                obtain ⟨A6, c6, rfl, hp6⟩ := ho6.pairs HCT.out.ok
                have hb7 := hb2.trans (b6.mono hbs)
                have hbs7 := hb7.size
                have hp7 := HP5.out.call b6
                clear ho6 b6
                go_wp2_with fail
                refine (same_any _ A6 A5 c6 c5 R R true (by simp) hp6 hp7 (by omega) (by omega)).mono ?_
                rintro e w7 ⟨rfl, b7⟩
                go_wp2_with fail
                go_ret
                exact ⟨rfl, hb7.trans (b7.mono hbs7)⟩
      · have q1 : ¬ m < 1 := by omega
        have q2 : 4096 < m := by omega
        go_enter Try.func6, Try.ntmps6
        go_wp2_with fail
        refine (salive_any HD.out _).mono ?_
        rintro e w0 ⟨rfl, b0⟩
        go_wp2_with fail
        go_ret
        exact ⟨rfl, b0⟩
    · have q1 : m < 1 := by omega
      go_enter Try.func6, Try.ntmps6
      go_wp2_with fail
      refine (salive_any HD.out _).mono ?_
      rintro e w0 ⟨rfl, b0⟩
      go_wp2_with fail
      go_ret
      exact ⟨rfl, b0⟩
  · have q0 : (100 : Int) < L.length := by omega
    go_enter Try.func6, Try.ntmps6
    go_wp2_with fail
    refine (salive_any HD.out _).mono ?_
    rintro e w0 ⟨rfl, b0⟩
    go_wp2_with fail
    go_ret
    exact ⟨rfl, b0⟩
end Go.Proofs.Ytnhhehinbobknaa
