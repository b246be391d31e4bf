/-
  The law StripDoes, walked.
-/
import Derived.Test.YtnhhehinbobknaaCallO
import Derived.Test.YtnhhehinbobknaaRef8L
import Derived.Test.YtnhhehinbobknaaGrew
import Derived.BigQuiet
import Derived.Deep.CutBlock
import Derived.Deep.CutRange
import Derived.Deep.DeepCutAuto
import Derived.Deep.LoopGhost
namespace Go.Proofs.Ytnhhehinbobknaa
set_option linter.unusedVariables false
set_option linter.unusedSimpArgs false
open Go.RowKit

/-- A strip and the reference's, side by side. -/
structure Side (St : World → Nat → (Nat → Prop) → Int → List PairV → Prop) (base : Nat) (w : World) (B : Nat) (S : Nat → Prop) (m : Int) (R : List PairV) (M : Nat) (v : Value) : Prop where
  st : St w B S m R
  rf : RefS w M m v R
  above : ∀ x, S x → base ≤ x
  apart : ∀ x, S x → x ≠ M ∧ v.ownBlock ≠ some x
theorem Side.call {St : World → Nat → (Nat → Prop) → Int → List PairV → Prop} (D : StripDoes St) {base : Nat} {w w' : World} {B : Nat} {S : Nat → Prop} {m : Int} {R : List PairV} {M : Nat} {v : Value} (h : Side St base w B S m R M v) (hb : Below w.heap.size w w') : Side St base w' B S m R M v :=
  ⟨D.call h.st hb, h.rf.call hb, h.above, h.apart⟩
/-- What has become of the one, then of the other. -/
theorem Side.step {St : World → Nat → (Nat → Prop) → Int → List PairV → Prop} (D : StripDoes St) {base : Nat} {w w3 wm w4 : World} {B : Nat} {S S3 : Nat → Prop} {m : Int} {R RR : List PairV} {M : Nat} {v : Value} (h : Side St base w B S m R M v)
    (h3 : St w3 B S3 m RR) (k3 : Keeps S w w3) (hs3 : ∀ k, S3 k → S k ∨ w.heap.size ≤ k) (hbase : base ≤ w.heap.size) (hm : Below w3.heap.size w3 wm) (h4 : Done8 wm M m v RR w4) : ∃ v4, Side St base w4 B S3 m RR M v4 := by
  obtain ⟨⟨v4, hr4, hv4⟩, hg4⟩ := h4
  have hM := h.rf.lt
  have z3 := k3.size
  have zm := hm.size
  have hlt3 := D.lt _ _ _ _ _ h3
  have hS3 : ∀ x, S3 x → base ≤ x ∧ x ≠ M ∧ v.ownBlock ≠ some x := fun x hx => by
    rcases hs3 x hx with a | a
    · exact ⟨h.above x a, h.apart x a⟩
    · exact ⟨by omega, by omega, fun e => by have := (h.rf.2.lt x e).2; omega⟩
  refine ⟨v4, ⟨D.keep _ _ _ _ _ _ (D.call h3 hm) fun x hx => hg4.block x (by have := hlt3 x hx; omega) (fun e => (hS3 x hx).2.1 (Option.some.inj e)), hr4, fun x hx => (hS3 x hx).1, fun x hx => ⟨(hS3 x hx).2.1, fun e => ?_⟩⟩⟩
  rcases hv4 with rfl | hv4
  · exact (hS3 x hx).2.2 e
  · have := hv4 x e; have := hlt3 x hx; omega
theorem Side.past {St : World → Nat → (Nat → Prop) → Int → List PairV → Prop} {base : Nat} {w w3 : World} {B : Nat} {S : Nat → Prop} {m : Int} {R : List PairV} {M : Nat} {v : Value} (h : Side St base w B S m R M v) (k3 : Keeps S w w3) : RefS w3 M m v R :=
  h.rf.past k3 (fun hx => (h.apart _ hx).1 rfl) (fun g hg hx => (h.apart g hx).2 hg)
theorem Side.drew {St : World → Nat → (Nat → Prop) → Int → List PairV → Prop} (D : StripDoes St) {base : Nat} {w : World} {B : Nat} {S : Nat → Prop} {m : Int} {R : List PairV} {M : Nat} {v : Value} (h : Side St base w B S m R M v) : Side St base w.drew B S m R M v :=
  Side.call D h (Below.refl _ _).drew
/-- A cell of a block that neither of them is. -/
theorem done_cell {w w' : World} {M : Nat} {m : Int} {v : Value} {L : List PairV} {b o : Nat} {x : Value} (h : Done8 w M m v L w') (hb : b ≠ M) (hc : w.cell? ⟨b, o, none⟩ = some x) : w'.cell? ⟨b, o, none⟩ = some x :=
  (World.cell?_of_block (a := ⟨b, o, none⟩) (h.2.block _ (World.block_lt_of_cell? (a := ⟨b, o, none⟩) _ hc) (fun e => hb (Option.some.inj e)))).trans hc
theorem new_any8 {St : World → Nat → (Nat → Prop) → Int → List PairV → Prop} (D : StripDoes St) (w : World) (m : Int) (hm : I64 m) :
    Calls Try.prog 9 #[.int .i64 m] w fun e w' => ∃ (PV : Value) (EV : Int), e = .returned (.tuple #[PV, .int .i64 EV]) ∧ Below w.heap.size w w' ∧
      ((1 ≤ m ∧ m ≤ 4096 ∧ ∃ (B : Nat) (S : Nat → Prop), PV = .pointer (some ⟨B, 0, none⟩) ∧ EV = 0 ∧ St w' B S m [] ∧ (∀ k, S k → w.heap.size ≤ k)) ∨ ((m < 1 ∨ 4096 < m) ∧ PV = .pointer none ∧ EV = 1)) := by
  by_cases h : m < 1 ∨ 4096 < m
  · refine (D.bad w m hm h).mono ?_
    rintro e w1 ⟨rfl, b1⟩
    exact ⟨_, _, rfl, b1, Or.inr ⟨h, rfl, rfl⟩⟩
  · have h1 : 1 ≤ m := by omega
    have h2 : m ≤ 4096 := by omega
    refine (D.new w m h1 h2).mono ?_
    rintro e w1 ⟨B, S, rfl, hs, ha, b1⟩
    exact ⟨_, _, rfl, b1, Or.inl ⟨h1, h2, B, S, rfl, rfl, hs, ha⟩⟩

set_option maxRecDepth 100000 in
set_option maxHeartbeats 4000000 in
theorem sdoes_walk {St : World → Nat → (Nat → Prop) → Int → List PairV → Prop} (D : StripDoes St) (NL : StripNil) (w : World) (m : Int) (A : Option Addr) (cap : Nat) (L : List CallV) (i : Int) (hm : I64 m) (h : Scr w A L) (hl : L.length ≤ 140737488351232) (hi : I64 i) :
    Calls Try.prog 3 #[.int .i64 m, .slice A L.length cap, .int .i64 i] w fun e w' => e = .returned (.bool true) ∧ Below w.heap.size w w' := by
  have HD := Lib.hid D
  have HN := Lib.hid NL
  have HP := Lib.hid h
  have HM := Lib.hid hm
  have HI := Lib.hid hi
  obtain ⟨m0, m1⟩ := hm
  obtain ⟨i0, i1⟩ := hi
  clear D h NL
  by_cases hll : L.length ≤ 100
  · have q0 : ¬ (100 : Int) < L.length := by omega
    go_enter Try.func3, Try.ntmps3
    go_wp2_with fail
    refine (salive_any HD.out _).mono ?_
    rintro e w0 ⟨rfl, b0⟩
    have z0 := b0.size
    go_wp2_with fail
    refine (new_any8 HD.out _ m HM.out).mono ?_
    rintro e w1 ⟨PV, EV, rfl, b1, hor⟩
    have hb1 := b0.trans (b1.mono z0)
    have z1 := hb1.size
    have HB1 := Lib.hid b1
    have HOR := Lib.hid hor
    clear b1 hor
    go_wp2_with fail
    refine (HN.out.first _).mono ?_
    rintro e w2 ⟨rfl, b2⟩
    have hb2 := hb1.trans (b2.mono z1)
    have z2 := hb2.size
    have hn2 := b2
    clear b2 hb1
    go_wp2_with fail
    refine (HN.out.last _).mono ?_
    rintro e w3 ⟨rfl, b3⟩
    have hb3 := (hb2.alloc z2 (.cells #[.int .i64 0, .int .u64 0] 30)).trans (b3.mono (hb2.alloc z2 _).size)
    have z3 := hb3.size
    have hn3 := (hn2.alloc hn2.size (.cells #[.int .i64 0, .int .u64 0] 30)).trans (b3.mono (hn2.alloc hn2.size _).size)
    clear b3 hb2 hn2
    go_wp2_with fail
    refine (HN.out.find _ 1 ⟨by decide, by decide⟩).mono ?_
    rintro e w4 ⟨rfl, b4⟩
    have hb4 := (hb3.alloc z3 (.cells #[.int .i64 0, .int .u64 0] 30)).trans (b4.mono (hb3.alloc z3 _).size)
    have z4 := hb4.size
    have hn4 := (hn3.alloc hn3.size (.cells #[.int .i64 0, .int .u64 0] 30)).trans (b4.mono (hn3.alloc hn3.size _).size)
    clear b4 hb3 hn3
    go_wp2_with fail
    refine (HN.out.ends _).mono ?_
    rintro e w5 ⟨rfl, b5⟩
    have hb5 := hb4.trans (b5.mono z4)
    have z5 := hb5.size
    have hn5 := hn4.trans (b5.mono hn4.size)
    clear b5 hb4 hn4
    go_wp2_with fail
    refine (HN.out.add _ 1 1 ⟨by decide, by decide⟩ ⟨by decide, by decide⟩).mono ?_
    rintro e w6 ⟨rfl, b6⟩
    have hb6 := hb5.trans (b6.mono z5)
    have z6 := hb6.size
    have hn6 := hn5.trans (b6.mono hn5.size)
    clear b6 hb5 hn5
    go_wp2_with fail
    refine (HN.out.at_ _ 1 ⟨by decide, by decide⟩).mono ?_
    rintro e w7 ⟨rfl, b7⟩
    have hb7 := hb6.trans (b7.mono z6)
    have z7 := hb7.size
    have hn7 := hn6.trans (b7.mono hn6.size)
    clear b7 hb6 hn6
    go_wp2_with fail
    refine (HN.out.total _).mono ?_
    rintro e w8 ⟨rfl, b8⟩
    have hb8 := hb7.trans (b8.mono z7)
    have z8 := hb8.size
    have hn8 := hn7.trans (b8.mono hn7.size)
    clear b8 hb7 hn7
    go_wp2_with fail
    refine (HN.out.below _ 1 ⟨by decide, by decide⟩).mono ?_
    rintro e w9 ⟨rfl, b9⟩
    have hb9 := hb8.trans (b9.mono z8)
    have z9 := hb9.size
    have hn9 := hn8.trans (b9.mono hn8.size)
    clear b9 hb8 hn8
    go_wp2_with fail
    refine (HN.out.len _).mono ?_
    rintro e w10 ⟨rfl, b10⟩
    have hb10 := hb9.trans (b10.mono z9)
    have z10 := hb10.size
    have hn10 := hn9.trans (b10.mono hn9.size)
    clear b10 hb9 hn9
    go_wp2_with fail
    refine (HN.out.pairs _).mono ?_
    rintro e w11 ⟨AN, CN, rfl, b11⟩
    have hb11 := hb10.trans (b11.mono z10)
    have z11 := hb11.size
    have hn11 := hn10.trans (b11.mono hn10.size)
    clear b11 hb10 hn10
    have HBN := Lib.hid hn11
    clear hn11
    rcases HOR.out with ⟨hm1, hm2, B, S, rfl, rfl, hst, hab⟩ | ⟨hbad, rfl, rfl⟩
    · have q1 : ¬ m < 1 := by omega
      have q2 : ¬ 4096 < m := by omega
      obtain ⟨M, hM⟩ : ∃ M, w11.heap.size = M := ⟨_, rfl⟩
      have hwM : w.heap.size ≤ M := by omega
      have hbL := hb11.alloc z11 (.cells #[.int .i64 m, .slice none 0 0] 45)
      have hrf := RefS.new w11 m
      rw [hM] at hrf
      have hsd : Side St w.heap.size (w11.alloc (.cells #[.int .i64 m, .slice none 0 0] 45)) B S m [] M (.slice none 0 0) :=
        ⟨HD.out.call (HD.out.call hst HBN.out) ((Below.refl _ _).alloc (Nat.le_refl _) _), hrf, fun x hx => by have := hab x hx; omega, fun x hx => ⟨fun e => by have h1 := HD.out.lt _ _ _ _ _ hst x hx; have h2 := HBN.out.size; omega, fun e => by simp [Value.ownBlock] at e⟩⟩
      have HSD := Lib.hid hsd
      have HBL := Lib.hid hbL
      clear hst hab HOR hrf hsd hb11 hbL
      go_wp2_with fail
      try rw [hM]
      go_loopg [117] L.length (fun g j wr => ∃ (k : Nat) (S' : Nat → Prop) (v : Value) (R : List PairV), k ≤ L.length ∧ g = L.length - k ∧ j = .int .i64 k ∧ Side St w.heap.size wr B S' m R M v ∧ R.length ≤ k ∧ Below w.heap.size w wr)
      case atStart => exact ⟨0, S, _, [], Nat.zero_le _, by simp, rfl, HSD.out, Nat.le_refl _, HBL.out⟩
      case round =>
        obtain ⟨k, S', v, R, hk, rfl, rfl, hsd, hRl, hb2⟩ := hrel
        have hbs := hb2.size
        have HSD' := Lib.hid hsd
        have HST := Lib.hid (HD.out.stp _ _ _ _ _ hsd.st)
        have hMw := hsd.rf.lt
        clear hsd HSD HBL
        by_cases hlt : k < L.length
        · have kk : (k : Int) < L.length := by omega
          have hxk : L[k]? = some L[k] := List.getElem?_eq_getElem hlt
          generalize hit : L[k] = x at *
          obtain ⟨xk, xi, xc⟩ := x
          obtain ⟨b1, off, rfl, hbl, c0, c1, c2⟩ := (HP.out.call hb2).at_ k _ hxk
          simp only at c0 c1 c2
          have hok := HP.out.ok _ (List.mem_of_getElem? hxk)
          have HOK := Lib.hid hok
          obtain ⟨⟨o1, o2⟩, ⟨o3, o4⟩, o5, o6⟩ := hok
          simp only at o1 o2 o3 o4 o5 o6
          clear hxk hit
          have hR9 : R.length ≤ 900 := by omega
          have HSD1 := Lib.hid (Side.call HD.out HSD'.out ((Below.refl _ _).alloc (Nat.le_refl _) (.cells #[.int .i64 xk, .int .i64 xi, .int .u64 xc] 47)))
          have HB3 := Lib.hid (hb2.alloc hbs (.cells #[.int .i64 xk, .int .i64 xi, .int .u64 xc] 47))
          have hzb : (wr.alloc (.cells #[.int .i64 xk, .int .i64 xi, .int .u64 xc] 47)).heap.size = wr.heap.size + 1 := by simp
          have HZB := Lib.hid hzb
          have hnb : Hid (¬ S' wr.heap.size) := Lib.hid fun hx => by have := HD.out.lt _ _ _ _ _ HSD'.out.st _ hx; omega
          have hMb : wr.heap.size ≠ M := by omega
          have HCT := Lib.hid HST.out
          clear hzb
          go_upto_block 2 with fail
          go_cut [22, 23, 24, 25, 26, 27, 28, 29, 30, 117] (fun ok s23 s24 s25 s26 s27 s28 s29 s30 j wx => ok = .bool true ∧ j = .int .i64 k ∧ ∃ (S3 : Nat → Prop) (v3 : Value) (RR : List PairV), Side St w.heap.size wx B S3 m RR M v3 ∧ RR.length ≤ k + 1 ∧ wx.cell? ⟨wr.heap.size, 1, none⟩ = some (.int .i64 xi) ∧ Below w.heap.size w wx)
          case first =>
            by_cases k0 : xk = 0
            · subst k0
              as_aux_lemma =>
                go_wp2_with fail
                refine wp_region_noPanic ?_
                refine wp_region_held_drew (S := fun w' => w'.cell? ⟨wr.heap.size, 1, none⟩ = some (.int .i64 xi) ∧ w'.cell? ⟨wr.heap.size, 2, none⟩ = some (.int .u64 xc)) (by kernel_rfl) ⟨by go_simp, by go_simp⟩ (fun hHeld => ?_)
                have hSb := Side.drew HD.out HSD1.out
                have hBb := HB3.out.drew
                have hsb : (wr.alloc (.cells #[.int .i64 0, .int .i64 xi, .int .u64 xc] 47)).drew.heap.size = wr.heap.size + 1 := by simp
                generalize (wr.alloc (.cells #[.int .i64 0, .int .i64 xi, .int .u64 xc] 47)).drew = wb at *
                have HSB := Lib.hid hSb
                have HBB := Lib.hid hBb
                have HZ := Lib.hid hsb
                clear hSb hBb hsb c0 c1 c2
                refine wpAnyH_take (i := 0) (oi := _) (v := ?v1) (by simp only [List.getElem?_toArray, List.getElem?_cons_succ, List.getElem?_cons_zero]; rfl) (by kernel_rfl) (by kernel_rfl) (by kernel_rfl) (fun _ _ _ h => h) (Or.inl ⟨by rfl, ?y1⟩) hHeld ?r1
                case y1 => (intro w hSw; (try dsimp only at hSw); go_simp; try with_reducible rfl)
                try simp only [Act.put, List.setIfInBounds_toArray, List.set_cons_zero, List.set_cons_succ]
                refine wpAnyH_take (i := 1) (oi := _) (v := ?v2) (by simp only [List.getElem?_toArray, List.getElem?_cons_succ, List.getElem?_cons_zero]; rfl) (by kernel_rfl) (by kernel_rfl) (by kernel_rfl) (fun _ _ _ h => h) (Or.inl ⟨by rfl, ?y2⟩) hHeld ?r2
                case y2 => (intro w hSw; (try dsimp only at hSw); go_simp; try with_reducible rfl)
                try simp only [Act.put, List.setIfInBounds_toArray, List.set_cons_zero, List.set_cons_succ]
                refine wpAnyH_take (i := 2) (oi := _) (v := ?v3) (by simp only [List.getElem?_toArray, List.getElem?_cons_succ, List.getElem?_cons_zero]; rfl) (by kernel_rfl) (by kernel_rfl) (by kernel_rfl) (fun _ _ _ h => h) (Or.inl ⟨by rfl, ?y3⟩) hHeld ?r3
                case y3 => (intro w hSw; (try dsimp only at hSw); go_simp; try with_reducible rfl)
                try simp only [Act.put, List.setIfInBounds_toArray, List.set_cons_zero, List.set_cons_succ]
                refine wpAnyH_take (i := 3) (oi := _) (v := ?v4) (by simp only [List.getElem?_toArray, List.getElem?_cons_succ, List.getElem?_cons_zero]; rfl) (by kernel_rfl) (by kernel_rfl) (by kernel_rfl) (fun _ _ _ h => h) (Or.inl ⟨by rfl, ?y4⟩) hHeld ?r4
                case y4 => (intro w hSw; (try dsimp only at hSw); go_simp; try with_reducible rfl)
                try simp only [Act.put, List.setIfInBounds_toArray, List.set_cons_zero, List.set_cons_succ]
                refine wpAnyH_take (i := 4) (oi := _) (v := ?v5) (by simp only [List.getElem?_toArray, List.getElem?_cons_succ, List.getElem?_cons_zero]; rfl) (by kernel_rfl) (by kernel_rfl) (by kernel_rfl) (fun _ _ _ h => h) (Or.inl ⟨by rfl, ?y5⟩) hHeld ?r5
                case y5 => (intro w hSw; (try dsimp only at hSw); go_simp; try with_reducible rfl)
                try simp only [Act.put, List.setIfInBounds_toArray, List.set_cons_zero, List.set_cons_succ]
                refine wpAnyH_take (i := 6) (oi := _) (v := ?v6) (by simp only [List.getElem?_toArray, List.getElem?_cons_succ, List.getElem?_cons_zero]; rfl) (by kernel_rfl) (by kernel_rfl) (by kernel_rfl) (fun _ _ _ h => h) (Or.inl ⟨by rfl, ?y6⟩) hHeld ?r6
                case y6 => (intro w hSw; (try dsimp only at hSw); go_simp; try with_reducible rfl)
                try simp only [Act.put, List.setIfInBounds_toArray, List.set_cons_zero, List.set_cons_succ]
                refine wpAnyH_take (i := 7) (oi := _) (v := ?v7) (by simp only [List.getElem?_toArray, List.getElem?_cons_succ, List.getElem?_cons_zero]; rfl) (by kernel_rfl) (by kernel_rfl) (by kernel_rfl) (fun _ _ _ h => h) (Or.inl ⟨by rfl, ?y7⟩) hHeld ?r7
                case y7 => (intro w hSw; (try dsimp only at hSw); go_simp; try with_reducible rfl)
                try simp only [Act.put, List.setIfInBounds_toArray, List.set_cons_zero, List.set_cons_succ]
                refine wpAnyH_take (i := 8) (oi := _) (v := ?v8) (by simp only [List.getElem?_toArray, List.getElem?_cons_succ, List.getElem?_cons_zero]; rfl) (by kernel_rfl) (by kernel_rfl) (by kernel_rfl) (fun _ _ _ h => h) (Or.inl ⟨by rfl, ?y8⟩) hHeld ?r8
                case y8 => (intro w hSw; (try dsimp only at hSw); go_simp; try with_reducible rfl)
                try simp only [Act.put, List.setIfInBounds_toArray, List.set_cons_zero, List.set_cons_succ]
                refine wpAnyH_take (i := 9) (oi := _) (v := ?v9) (by simp only [List.getElem?_toArray, List.getElem?_cons_succ, List.getElem?_cons_zero]; rfl) (by kernel_rfl) (by kernel_rfl) (by kernel_rfl) (fun _ _ _ h => h) (Or.inl ⟨by rfl, ?y9⟩) hHeld ?r9
                case y9 => (intro w hSw; (try dsimp only at hSw); go_simp; try with_reducible rfl)
                try simp only [Act.put, List.setIfInBounds_toArray, List.set_cons_zero, List.set_cons_succ]
                refine wpAnyH_take (i := 10) (oi := _) (v := ?v10) (by simp only [List.getElem?_toArray, List.getElem?_cons_succ, List.getElem?_cons_zero]; rfl) (by kernel_rfl) (by kernel_rfl) (by kernel_rfl) (fun _ _ _ h => h) (Or.inl ⟨by rfl, ?y10⟩) hHeld ?r10
                case y10 => (intro w hSw; (try dsimp only at hSw); go_simp; try with_reducible rfl)
                try simp only [Act.put, List.setIfInBounds_toArray, List.set_cons_zero, List.set_cons_succ]
                refine wpAnyH_ready (rs := [5]) (by kernel_rfl) (by simp) ?_
                refine AllReadyH.cons (o := _) (by simp only [List.getElem?_toArray, List.getElem?_cons_succ, List.getElem?_cons_zero]; rfl) (fun K hK => ?_) AllReadyH.nil
                go_simp
                refine (HD.out.add _ B S' m R xi xc HSB.out.st hR9 HOK.out.2.1 HOK.out.2.2).mono ?_
                rintro e w3 ⟨S3, rfl, h3, k3, hs3⟩
                try (go_wp2_with fail)
                refine hK.out _ _ (⟨k3.cell hnb.out hHeld.1, k3.cell hnb.out hHeld.2⟩) (fun hHeld => ?_)
                clear hK K
                try simp only [Act.put, List.setIfInBounds_toArray, List.set_cons_zero, List.set_cons_succ]
                have hb3 := k3.below HBB.out (by rw [HZ.out]; omega) HSB.out.above
                have HR3 := Lib.hid (HSB.out.past k3)
                have H3 := Lib.hid h3
                have K3 := Lib.hid k3
                have HS3 := Lib.hid hs3
                clear h3 k3 hs3
                have hb3s := hb3.size
                refine wpAnyH_ready (rs := [11]) (by kernel_rfl) (by simp) ?_
                refine AllReadyH.cons (o := _) (by simp only [List.getElem?_toArray, List.getElem?_cons_succ, List.getElem?_cons_zero]; rfl) (fun K hK => ?_) AllReadyH.nil
                go_simp
                refine (rsadd_any _ M m v R xi xc HR3.out HCT.out hR9 HM.out HOK.out.2.1 HOK.out.2.2).mono ?_
                rintro e w4 ⟨rfl, hd4⟩
                try (go_wp2_with fail)
                refine hK.out _ _ (⟨done_cell hd4 hMb hHeld.1, done_cell hd4 hMb hHeld.2⟩) (fun hHeld => ?_)
                clear hK K
                try simp only [Act.put, List.setIfInBounds_toArray, List.set_cons_zero, List.set_cons_succ]
                have hb4 := hb3.trans (grown_below hd4.2 hwM hb3.size)
                obtain ⟨v4, hs4⟩ := Side.step HD.out HSB.out H3.out K3.out HS3.out (by rw [HZ.out]; omega) (Below.refl _ _) hd4
                have HS4 := Lib.hid hs4
                have HB4 := Lib.hid hb4
                have HRL : Hid ((stRow m R xi xc).length ≤ k + 1) := Lib.hid (Nat.le_trans (stRow_len m R xi xc) (by omega))
                clear hs4 hb4 hd4 hb3
                refine wpAnyH_take (i := 12) (oi := _) (v := ?v11) (by simp only [List.getElem?_toArray, List.getElem?_cons_succ, List.getElem?_cons_zero]; rfl) (by kernel_rfl) (by kernel_rfl) (by kernel_rfl) (fun _ _ _ h => h) (Or.inl ⟨by rfl, ?y11⟩) hHeld ?r11
                case y11 => (intro w hSw; (try dsimp only at hSw); go_simp; try with_reducible rfl)
                try simp only [Act.put, List.setIfInBounds_toArray, List.set_cons_zero, List.set_cons_succ]
                refine wpAnyH_take (i := 13) (oi := _) (v := ?v12) (by simp only [List.getElem?_toArray, List.getElem?_cons_succ, List.getElem?_cons_zero]; rfl) (by kernel_rfl) (by kernel_rfl) (by kernel_rfl) (fun _ _ _ h => h) (Or.inl ⟨by rfl, ?y12⟩) hHeld ?r12
                case y12 => (intro w hSw; (try dsimp only at hSw); go_simp; try with_reducible rfl)
                try simp only [Act.put, List.setIfInBounds_toArray, List.set_cons_zero, List.set_cons_succ]
                refine wpAnyH_done (by kernel_rfl) ?_ _
                refine NoPanic.normal ?_
                have hx := Lib.hid hHeld.1
                clear hHeld
                go_wp2_with fail
                go_meet
                exact ⟨by simp, rfl, _, v4, _, HS4.out, HRL.out, hx.out, HB4.out⟩
            · have k0' : (xk == 0) = false := by simp [k0]
              by_cases k1 : xk = 1
              · subst k1
                as_aux_lemma =>
                  go_wp2_with fail
                  refine (HD.out.first _ B S' m R HSD1.out.st hR9).mono ?_
                  rintro e w3 ⟨S3, rfl, h3, k3, hs3⟩
                  have hb3 := k3.below HB3.out (by rw [HZB.out]; omega) HSD1.out.above
                  have hb3s := hb3.size
                  have cx : w3.cell? ⟨wr.heap.size, 1, none⟩ = some (.int .i64 xi) := k3.cell hnb.out (by go_simp)
                  have HR3 := Lib.hid (HSD1.out.past k3)
                  have H3 := Lib.hid h3
                  have K3 := Lib.hid k3
                  have HS3 := Lib.hid hs3
                  have HRL : Hid ((R.tail).length ≤ k + 1) := Lib.hid (by rw [List.length_tail]; omega)
                  clear h3 k3 hs3 c0 c1 c2
                  obtain ⟨px, pc, hp⟩ : ∃ px pc, firP R = (px, pc) := ⟨_, _, rfl⟩
                  obtain ⟨em, hem⟩ : ∃ em, (!R.isEmpty) = em := ⟨_, rfl⟩
                  have HPE := Lib.hid hp
                  have HEE := Lib.hid hem
                  rw [hp, hem]
                  clear hp hem
                  have hba := (Below.refl w3.heap.size w3).alloc (Nat.le_refl _) (.cells #[.int .i64 px, .int .u64 pc] 30)
                  have HBA := Lib.hid hba
                  have HB4 := Lib.hid (hb3.alloc hb3s (.cells #[.int .i64 px, .int .u64 pc] 30))
                  have HR4 := Lib.hid (HR3.out.call hba)
                  have HCX := Lib.hid (cell_later hba cx)
                  clear hba cx
                  go_wp2_with fail
                  refine (rsfirst_any _ M m v R HR4.out HCT.out hR9).mono ?_
                  rintro e w5 ⟨rfl, hd5⟩
                  rw [HPE.out, HEE.out]
                  have hb5 := HB4.out.trans (grown_below hd5.2 hwM HB4.out.size)
                  have hb5s := hb5.size
                  obtain ⟨v4, hs5⟩ := Side.step HD.out HSD1.out H3.out K3.out HS3.out (by rw [HZB.out]; omega) HBA.out hd5
                  have cx5 := done_cell hd5 hMb HCX.out
                  have bb0 : (w3.alloc (.cells #[.int .i64 px, .int .u64 pc] 30)).cell? ⟨w3.heap.size, 0, none⟩ = some (.int .i64 px) := by go_simp
                  have bb1 : (w3.alloc (.cells #[.int .i64 px, .int .u64 pc] 30)).cell? ⟨w3.heap.size, 1, none⟩ = some (.int .u64 pc) := by go_simp
                  have hM3 : w3.heap.size ≠ M := by have := HR3.out.lt; omega
                  have dd0 := done_cell hd5 hM3 bb0
                  have dd1 := done_cell hd5 hM3 bb1
                  have l0 := World.block_lt_of_cell? (a := ⟨w3.heap.size, 0, none⟩) _ dd0
                  simp only at l0
                  have HS5 := Lib.hid (Side.call HD.out hs5 ((Below.refl _ _).alloc (Nat.le_refl _) (.cells #[.int .i64 px, .int .u64 pc] 30)))
                  have HB5 := Lib.hid (hb5.alloc hb5s (.cells #[.int .i64 px, .int .u64 pc] 30))
                  have HX5 := Lib.hid (cell_later ((Below.refl w5.heap.size w5).alloc (Nat.le_refl _) (.cells #[.int .i64 px, .int .u64 pc] 30)) cx5)
                  clear hs5 hd5 bb0 bb1 hb5 cx5
                  go_wp2_with fail
                  go_meet
                  exact ⟨by simp, rfl, _, v4, _, HS5.out, HRL.out, HX5.out, HB5.out⟩
              · have k1' : (xk == 1) = false := by simp [k1]
                by_cases k2 : xk = 2
                · subst k2
                  as_aux_lemma =>
                    go_wp2_with fail
                    refine (HD.out.last _ B S' m R HSD1.out.st hR9).mono ?_
                    rintro e w3 ⟨S3, rfl, h3, k3, hs3⟩
                    have hb3 := k3.below HB3.out (by rw [HZB.out]; omega) HSD1.out.above
                    have hb3s := hb3.size
                    have cx : w3.cell? ⟨wr.heap.size, 1, none⟩ = some (.int .i64 xi) := k3.cell hnb.out (by go_simp)
                    have HR3 := Lib.hid (HSD1.out.past k3)
                    have H3 := Lib.hid h3
                    have K3 := Lib.hid k3
                    have HS3 := Lib.hid hs3
                    have HRL : Hid ((R.dropLast).length ≤ k + 1) := Lib.hid (by rw [List.length_dropLast]; omega)
                    clear h3 k3 hs3 c0 c1 c2
                    obtain ⟨px, pc, hp⟩ : ∃ px pc, lasP R = (px, pc) := ⟨_, _, rfl⟩
                    obtain ⟨em, hem⟩ : ∃ em, (!R.isEmpty) = em := ⟨_, rfl⟩
                    have HPE := Lib.hid hp
                    have HEE := Lib.hid hem
                    rw [hp, hem]
                    clear hp hem
                    have hba := (Below.refl w3.heap.size w3).alloc (Nat.le_refl _) (.cells #[.int .i64 px, .int .u64 pc] 30)
                    have HBA := Lib.hid hba
                    have HB4 := Lib.hid (hb3.alloc hb3s (.cells #[.int .i64 px, .int .u64 pc] 30))
                    have HR4 := Lib.hid (HR3.out.call hba)
                    have HCX := Lib.hid (cell_later hba cx)
                    clear hba cx
                    go_wp2_with fail
                    refine (rslast_any _ M m v R HR4.out HCT.out hR9).mono ?_
                    rintro e w5 ⟨rfl, hd5⟩
                    rw [HPE.out, HEE.out]
                    have hb5 := HB4.out.trans (grown_below hd5.2 hwM HB4.out.size)
                    have hb5s := hb5.size
                    obtain ⟨v4, hs5⟩ := Side.step HD.out HSD1.out H3.out K3.out HS3.out (by rw [HZB.out]; omega) HBA.out hd5
                    have cx5 := done_cell hd5 hMb HCX.out
                    have bb0 : (w3.alloc (.cells #[.int .i64 px, .int .u64 pc] 30)).cell? ⟨w3.heap.size, 0, none⟩ = some (.int .i64 px) := by go_simp
                    have bb1 : (w3.alloc (.cells #[.int .i64 px, .int .u64 pc] 30)).cell? ⟨w3.heap.size, 1, none⟩ = some (.int .u64 pc) := by go_simp
                    have hM3 : w3.heap.size ≠ M := by have := HR3.out.lt; omega
                    have dd0 := done_cell hd5 hM3 bb0
                    have dd1 := done_cell hd5 hM3 bb1
                    have l0 := World.block_lt_of_cell? (a := ⟨w3.heap.size, 0, none⟩) _ dd0
                    simp only at l0
                    have HS5 := Lib.hid (Side.call HD.out hs5 ((Below.refl _ _).alloc (Nat.le_refl _) (.cells #[.int .i64 px, .int .u64 pc] 30)))
                    have HB5 := Lib.hid (hb5.alloc hb5s (.cells #[.int .i64 px, .int .u64 pc] 30))
                    have HX5 := Lib.hid (cell_later ((Below.refl w5.heap.size w5).alloc (Nat.le_refl _) (.cells #[.int .i64 px, .int .u64 pc] 30)) cx5)
                    clear hs5 hd5 bb0 bb1 hb5 cx5
                    go_wp2_with fail
                    go_meet
                    exact ⟨by simp, rfl, _, v4, _, HS5.out, HRL.out, HX5.out, HB5.out⟩
                · have k2' : (xk == 2) = false := by simp [k2]
                  have HX5 : Hid ((wr.alloc (.cells #[.int .i64 xk, .int .i64 xi, .int .u64 xc] 47)).cell? ⟨wr.heap.size, 1, none⟩ = some (.int .i64 xi)) := Lib.hid (by go_simp)
                  go_wp2_with fail
                  go_meet
                  exact ⟨rfl, rfl, S', v, R, HSD1.out, Nat.le_succ_of_le hRl, HX5.out, HB3.out⟩
          case rest =>
            rename World => w4
            obtain ⟨rfl, rfl, S3, v3, RR, hsd, hRl3, hx, hb4⟩ := hcut
            have hst := HD.out.stp _ _ _ _ _ hsd.st
            have HCR := Lib.hid hst
            obtain ⟨Av, cv, rfl, hPv⟩ := hsd.rf.2.pairs hst.ok
            have cm4 := hsd.rf.1.c1
            have HS4 := Lib.hid hsd
            have HPV := Lib.hid hPv
            have HB4 := Lib.hid hb4
            have hRR : RR.length ≤ 900 := by omega
            have hb4s := hb4.size
            have HRL := Lib.hid hRl3
            clear hsd hst hPv hb4 hRl3 HSD1 HB3 HCT hnb HST HSD' c0 c1 c2
            go_upto_region 31 with fail
            go_cut [235] (fun t wx => t = .bool false ∧ Below w4.heap.size w4 wx)
            case first =>
              as_aux_lemma =>
                refine wp_region_noPanic ?_
                refine wp_region_held_drew (S := fun w' => w'.cell? ⟨wr.heap.size, 1, none⟩ = some (.int .i64 xi) ∧ w'.cell? ⟨M, 1, none⟩ = some (.slice Av RR.length cv) ∧ Below w4.heap.size w4 w') (by kernel_rfl) ⟨by go_simp, by go_simp, (Below.refl _ _).drew⟩ (fun hHeld => ?_)
                clear hx cm4
                refine wpAnyH_take (i := 0) (oi := _) (v := ?v13) (by simp only [List.getElem?_toArray, List.getElem?_cons_succ, List.getElem?_cons_zero]; rfl) (by kernel_rfl) (by kernel_rfl) (by kernel_rfl) (fun _ _ _ h => h) (Or.inl ⟨by rfl, ?y13⟩) hHeld ?r13
                case y13 => (intro w hSw; (try dsimp only at hSw); go_simp; try with_reducible rfl)
                try simp only [Act.put, List.setIfInBounds_toArray, List.set_cons_zero, List.set_cons_succ]
                refine wpAnyH_take (i := 1) (oi := _) (v := ?v14) (by simp only [List.getElem?_toArray, List.getElem?_cons_succ, List.getElem?_cons_zero]; rfl) (by kernel_rfl) (by kernel_rfl) (by kernel_rfl) (fun _ _ _ h => h) (Or.inl ⟨by rfl, ?y14⟩) hHeld ?r14
                case y14 => (intro w hSw; (try dsimp only at hSw); go_simp; try with_reducible rfl)
                try simp only [Act.put, List.setIfInBounds_toArray, List.set_cons_zero, List.set_cons_succ]
                refine wpAnyH_take (i := 2) (oi := _) (v := ?v15) (by simp only [List.getElem?_toArray, List.getElem?_cons_succ, List.getElem?_cons_zero]; rfl) (by kernel_rfl) (by kernel_rfl) (by kernel_rfl) (fun _ _ _ h => h) (Or.inl ⟨by rfl, ?y15⟩) hHeld ?r15
                case y15 => (intro w hSw; (try dsimp only at hSw); go_simp; try with_reducible rfl)
                try simp only [Act.put, List.setIfInBounds_toArray, List.set_cons_zero, List.set_cons_succ]
                refine wpAnyH_take (i := 3) (oi := _) (v := ?v16) (by simp only [List.getElem?_toArray, List.getElem?_cons_succ, List.getElem?_cons_zero]; rfl) (by kernel_rfl) (by kernel_rfl) (by kernel_rfl) (fun _ _ _ h => h) (Or.inl ⟨by rfl, ?y16⟩) hHeld ?r16
                case y16 => (intro w hSw; (try dsimp only at hSw); go_simp; try with_reducible rfl)
                try simp only [Act.put, List.setIfInBounds_toArray, List.set_cons_zero, List.set_cons_succ]
                refine wpAnyH_take (i := 5) (oi := _) (v := ?v17) (by simp only [List.getElem?_toArray, List.getElem?_cons_succ, List.getElem?_cons_zero]; rfl) (by kernel_rfl) (by kernel_rfl) (by kernel_rfl) (fun _ _ _ h => h) (Or.inl ⟨by rfl, ?y17⟩) hHeld ?r17
                case y17 => (intro w hSw; (try dsimp only at hSw); go_simp; try with_reducible rfl)
                try simp only [Act.put, List.setIfInBounds_toArray, List.set_cons_zero, List.set_cons_succ]
                refine wpAnyH_take (i := 6) (oi := _) (v := ?v18) (by simp only [List.getElem?_toArray, List.getElem?_cons_succ, List.getElem?_cons_zero]; rfl) (by kernel_rfl) (by kernel_rfl) (by kernel_rfl) (fun _ _ _ h => h) (Or.inl ⟨by rfl, ?y18⟩) hHeld ?r18
                case y18 => (intro w hSw; (try dsimp only at hSw); go_simp; try with_reducible rfl)
                try simp only [Act.put, List.setIfInBounds_toArray, List.set_cons_zero, List.set_cons_succ]
                refine wpAnyH_take (i := 7) (oi := _) (v := ?v19) (by simp only [List.getElem?_toArray, List.getElem?_cons_succ, List.getElem?_cons_zero]; rfl) (by kernel_rfl) (by kernel_rfl) (by kernel_rfl) (fun _ _ _ h => h) (Or.inl ⟨by rfl, ?y19⟩) hHeld ?r19
                case y19 => (intro w hSw; (try dsimp only at hSw); go_simp; try with_reducible rfl)
                try simp only [Act.put, List.setIfInBounds_toArray, List.set_cons_zero, List.set_cons_succ]
                refine wpAnyH_take (i := 8) (oi := _) (v := ?v20) (by simp only [List.getElem?_toArray, List.getElem?_cons_succ, List.getElem?_cons_zero]; rfl) (by kernel_rfl) (by kernel_rfl) (by kernel_rfl) (fun _ _ _ h => h) (Or.inl ⟨by rfl, ?y20⟩) hHeld ?r20
                case y20 => (intro w hSw; (try dsimp only at hSw); go_simp; try with_reducible rfl)
                try simp only [Act.put, List.setIfInBounds_toArray, List.set_cons_zero, List.set_cons_succ]
                refine wpAnyH_ready (rs := [4]) (by kernel_rfl) (by simp) ?_
                refine AllReadyH.cons (o := _) (by simp only [List.getElem?_toArray, List.getElem?_cons_succ, List.getElem?_cons_zero]; rfl) (fun K hK => ?_) AllReadyH.nil
                go_simp
                refine (HD.out.pairs _ B S3 m RR (HD.out.call HS4.out.st hHeld.2.2) hRR).mono ?_
                rintro e w5 ⟨vp, rfl, ho5, bN⟩
                obtain ⟨A5, c5, rfl, hP5⟩ := ho5.pairs HCR.out.ok
                try (go_wp2_with fail)
                refine hK.out _ _ (⟨cell_later bN hHeld.1, cell_later bN hHeld.2.1, hHeld.2.2.trans (bN.mono hHeld.2.2.size)⟩) (fun hHeld => ?_)
                clear hK K
                try simp only [Act.put, List.setIfInBounds_toArray, List.set_cons_zero, List.set_cons_succ]
                have HP5 := Lib.hid hP5
                clear hP5 ho5 bN
                refine wpAnyH_ready (rs := [9]) (by kernel_rfl) (by simp) ?_
                refine AllReadyH.cons (o := _) (by simp only [List.getElem?_toArray, List.getElem?_cons_succ, List.getElem?_cons_zero]; rfl) (fun K hK => ?_) AllReadyH.nil
                go_simp
                refine (same_any _ A5 Av c5 cv RR RR true (decide_eq_true rfl) HP5.out (HPV.out.call hHeld.2.2) (by omega) (by omega)).mono ?_
                rintro e wN ⟨rfl, bN⟩
                try (go_wp2_with fail)
                refine hK.out _ _ (⟨cell_later bN hHeld.1, cell_later bN hHeld.2.1, hHeld.2.2.trans (bN.mono hHeld.2.2.size)⟩) (fun hHeld => ?_)
                clear hK K
                try simp only [Act.put, List.setIfInBounds_toArray, List.set_cons_zero, List.set_cons_succ]
                clear bN
                refine wpAnyH_take (i := 10) (oi := _) (v := ?v21) (by simp only [List.getElem?_toArray, List.getElem?_cons_succ, List.getElem?_cons_zero]; rfl) (by kernel_rfl) (by kernel_rfl) (by kernel_rfl) (fun _ _ _ h => h) (Or.inl ⟨by rfl, ?y21⟩) hHeld ?r21
                case y21 => (intro w hSw; (try dsimp only at hSw); go_simp; try with_reducible rfl)
                try simp only [Act.put, List.setIfInBounds_toArray, List.set_cons_zero, List.set_cons_succ]
                refine wpAnyH_take (i := 11) (oi := _) (v := ?v22) (by simp only [List.getElem?_toArray, List.getElem?_cons_succ, List.getElem?_cons_zero]; rfl) (by kernel_rfl) (by kernel_rfl) (by kernel_rfl) (fun _ _ _ h => h) (Or.inl ⟨by rfl, ?y22⟩) hHeld ?r22
                case y22 => (intro w hSw; (try dsimp only at hSw); go_simp; try with_reducible rfl)
                try simp only [Act.put, List.setIfInBounds_toArray, List.set_cons_zero, List.set_cons_succ]
                refine wpAnyH_take (i := 12) (oi := _) (v := ?v23) (by simp only [List.getElem?_toArray, List.getElem?_cons_succ, List.getElem?_cons_zero]; rfl) (by kernel_rfl) (by kernel_rfl) (by kernel_rfl) (fun _ _ _ h => h) (Or.inl ⟨by rfl, ?y23⟩) hHeld ?r23
                case y23 => (intro w hSw; (try dsimp only at hSw); go_simp; try with_reducible rfl)
                try simp only [Act.put, List.setIfInBounds_toArray, List.set_cons_zero, List.set_cons_succ]
                refine wpAnyH_take (i := 13) (oi := _) (v := ?v24) (by simp only [List.getElem?_toArray, List.getElem?_cons_succ, List.getElem?_cons_zero]; rfl) (by kernel_rfl) (by kernel_rfl) (by kernel_rfl) (fun _ _ _ h => h) (Or.inl ⟨by rfl, ?y24⟩) hHeld ?r24
                case y24 => (intro w hSw; (try dsimp only at hSw); go_simp; try with_reducible rfl)
                try simp only [Act.put, List.setIfInBounds_toArray, List.set_cons_zero, List.set_cons_succ]
                refine wpAnyH_take (i := 15) (oi := _) (v := ?v25) (by simp only [List.getElem?_toArray, List.getElem?_cons_succ, List.getElem?_cons_zero]; rfl) (by kernel_rfl) (by kernel_rfl) (by kernel_rfl) (fun _ _ _ h => h) (Or.inl ⟨by rfl, ?y25⟩) hHeld ?r25
                case y25 => (intro w hSw; (try dsimp only at hSw); go_simp; try with_reducible rfl)
                try simp only [Act.put, List.setIfInBounds_toArray, List.set_cons_zero, List.set_cons_succ]
                refine wpAnyH_take (i := 16) (oi := _) (v := ?v26) (by simp only [List.getElem?_toArray, List.getElem?_cons_succ, List.getElem?_cons_zero]; rfl) (by kernel_rfl) (by kernel_rfl) (by kernel_rfl) (fun _ _ _ h => h) (Or.inl ⟨by rfl, ?y26⟩) hHeld ?r26
                case y26 => (intro w hSw; (try dsimp only at hSw); go_simp; try with_reducible rfl)
                try simp only [Act.put, List.setIfInBounds_toArray, List.set_cons_zero, List.set_cons_succ]
                refine wpAnyH_take (i := 17) (oi := _) (v := ?v27) (by simp only [List.getElem?_toArray, List.getElem?_cons_succ, List.getElem?_cons_zero]; rfl) (by kernel_rfl) (by kernel_rfl) (by kernel_rfl) (fun _ _ _ h => h) (Or.inl ⟨by rfl, ?y27⟩) hHeld ?r27
                case y27 => (intro w hSw; (try dsimp only at hSw); go_simp; try with_reducible rfl)
                try simp only [Act.put, List.setIfInBounds_toArray, List.set_cons_zero, List.set_cons_succ]
                refine wpAnyH_take (i := 18) (oi := _) (v := ?v28) (by simp only [List.getElem?_toArray, List.getElem?_cons_succ, List.getElem?_cons_zero]; rfl) (by kernel_rfl) (by kernel_rfl) (by kernel_rfl) (fun _ _ _ h => h) (Or.inl ⟨by rfl, ?y28⟩) hHeld ?r28
                case y28 => (intro w hSw; (try dsimp only at hSw); go_simp; try with_reducible rfl)
                try simp only [Act.put, List.setIfInBounds_toArray, List.set_cons_zero, List.set_cons_succ]
                refine wpAnyH_ready (rs := [14]) (by kernel_rfl) (by simp) ?_
                refine AllReadyH.cons (o := _) (by simp only [List.getElem?_toArray, List.getElem?_cons_succ, List.getElem?_cons_zero]; rfl) (fun K hK => ?_) AllReadyH.nil
                go_simp
                refine (HD.out.total _ B S3 m RR (HD.out.call HS4.out.st hHeld.2.2) hRR).mono ?_
                rintro e wN ⟨rfl, bN⟩
                try (go_wp2_with fail)
                refine hK.out _ _ (⟨cell_later bN hHeld.1, cell_later bN hHeld.2.1, hHeld.2.2.trans (bN.mono hHeld.2.2.size)⟩) (fun hHeld => ?_)
                clear hK K
                try simp only [Act.put, List.setIfInBounds_toArray, List.set_cons_zero, List.set_cons_succ]
                clear bN
                refine wpAnyH_ready (rs := [19]) (by kernel_rfl) (by simp) ?_
                refine AllReadyH.cons (o := _) (by simp only [List.getElem?_toArray, List.getElem?_cons_succ, List.getElem?_cons_zero]; rfl) (fun K hK => ?_) AllReadyH.nil
                go_simp
                refine (rtotal_any _ Av cv RR (sumP RR) (HPV.out.call hHeld.2.2) (by omega) rfl (by have := HCR.out.sum; omega)).mono ?_
                rintro e wN ⟨rfl, bN⟩
                try (go_wp2_with fail)
                refine hK.out _ _ (⟨cell_later bN hHeld.1, cell_later bN hHeld.2.1, hHeld.2.2.trans (bN.mono hHeld.2.2.size)⟩) (fun hHeld => ?_)
                clear hK K
                try simp only [Act.put, List.setIfInBounds_toArray, List.set_cons_zero, List.set_cons_succ]
                clear bN
                refine wpAnyH_take (i := 20) (oi := _) (v := ?v29) (by simp only [List.getElem?_toArray, List.getElem?_cons_succ, List.getElem?_cons_zero]; rfl) (by kernel_rfl) (by kernel_rfl) (by kernel_rfl) (fun _ _ _ h => h) (Or.inl ⟨by rfl, ?y29⟩) hHeld ?r29
                case y29 => (intro w hSw; (try dsimp only at hSw); go_simp; try with_reducible rfl)
                try simp only [Act.put, List.setIfInBounds_toArray, List.set_cons_zero, List.set_cons_succ]
                refine wpAnyH_take (i := 21) (oi := _) (v := ?v30) (by simp only [List.getElem?_toArray, List.getElem?_cons_succ, List.getElem?_cons_zero]; rfl) (by kernel_rfl) (by kernel_rfl) (by kernel_rfl) (fun _ _ _ h => h) (Or.inl ⟨by rfl, ?y30⟩) hHeld ?r30
                case y30 => (intro w hSw; (try dsimp only at hSw); go_simp; try with_reducible rfl)
                try simp only [Act.put, List.setIfInBounds_toArray, List.set_cons_zero, List.set_cons_succ]
                refine wpAnyH_take (i := 22) (oi := _) (v := ?v31) (by simp only [List.getElem?_toArray, List.getElem?_cons_succ, List.getElem?_cons_zero]; rfl) (by kernel_rfl) (by kernel_rfl) (by kernel_rfl) (fun _ _ _ h => h) (Or.inl ⟨by rfl, ?y31⟩) hHeld ?r31
                case y31 => (intro w hSw; (try dsimp only at hSw); go_simp; try with_reducible rfl)
                try simp only [Act.put, List.setIfInBounds_toArray, List.set_cons_zero, List.set_cons_succ]
                refine wpAnyH_take (i := 23) (oi := _) (v := ?v32) (by simp only [List.getElem?_toArray, List.getElem?_cons_succ, List.getElem?_cons_zero]; rfl) (by kernel_rfl) (by kernel_rfl) (by kernel_rfl) (fun _ _ _ h => h) (Or.inl ⟨by rfl, ?y32⟩) hHeld ?r32
                case y32 => (intro w hSw; (try dsimp only at hSw); go_simp; try with_reducible rfl)
                try simp only [Act.put, List.setIfInBounds_toArray, List.set_cons_zero, List.set_cons_succ]
                refine wpAnyH_take (i := 25) (oi := _) (v := ?v33) (by simp only [List.getElem?_toArray, List.getElem?_cons_succ, List.getElem?_cons_zero]; rfl) (by kernel_rfl) (by kernel_rfl) (by kernel_rfl) (fun _ _ _ h => h) (Or.inl ⟨by rfl, ?y33⟩) hHeld ?r33
                case y33 => (intro w hSw; (try dsimp only at hSw); go_simp; try with_reducible rfl)
                try simp only [Act.put, List.setIfInBounds_toArray, List.set_cons_zero, List.set_cons_succ]
                refine wpAnyH_take (i := 26) (oi := _) (v := ?v34) (by simp only [List.getElem?_toArray, List.getElem?_cons_succ, List.getElem?_cons_zero]; rfl) (by kernel_rfl) (by kernel_rfl) (by kernel_rfl) (fun _ _ _ h => h) (Or.inl ⟨by rfl, ?y34⟩) hHeld ?r34
                case y34 => (intro w hSw; (try dsimp only at hSw); go_simp; try with_reducible rfl)
                try simp only [Act.put, List.setIfInBounds_toArray, List.set_cons_zero, List.set_cons_succ]
                refine wpAnyH_take (i := 27) (oi := _) (v := ?v35) (by simp only [List.getElem?_toArray, List.getElem?_cons_succ, List.getElem?_cons_zero]; rfl) (by kernel_rfl) (by kernel_rfl) (by kernel_rfl) (fun _ _ _ h => h) (Or.inl ⟨by rfl, ?y35⟩) hHeld ?r35
                case y35 => (intro w hSw; (try dsimp only at hSw); go_simp; try with_reducible rfl)
                try simp only [Act.put, List.setIfInBounds_toArray, List.set_cons_zero, List.set_cons_succ]
                refine wpAnyH_take (i := 28) (oi := _) (v := ?v36) (by simp only [List.getElem?_toArray, List.getElem?_cons_succ, List.getElem?_cons_zero]; rfl) (by kernel_rfl) (by kernel_rfl) (by kernel_rfl) (fun _ _ _ h => h) (Or.inl ⟨by rfl, ?y36⟩) hHeld ?r36
                case y36 => (intro w hSw; (try dsimp only at hSw); go_simp; try with_reducible rfl)
                try simp only [Act.put, List.setIfInBounds_toArray, List.set_cons_zero, List.set_cons_succ]
                refine wpAnyH_take (i := 29) (oi := _) (v := ?v37) (by simp only [List.getElem?_toArray, List.getElem?_cons_succ, List.getElem?_cons_zero]; rfl) (by kernel_rfl) (by kernel_rfl) (by kernel_rfl) (fun _ _ _ h => h) (Or.inl ⟨by rfl, ?y37⟩) hHeld ?r37
                case y37 => (intro w hSw; (try dsimp only at hSw); go_simp; try with_reducible rfl)
                try simp only [Act.put, List.setIfInBounds_toArray, List.set_cons_zero, List.set_cons_succ]
                refine wpAnyH_ready (rs := [24]) (by kernel_rfl) (by simp) ?_
                refine AllReadyH.cons (o := _) (by simp only [List.getElem?_toArray, List.getElem?_cons_succ, List.getElem?_cons_zero]; rfl) (fun K hK => ?_) AllReadyH.nil
                go_simp
                refine (HD.out.len _ B S3 m RR (HD.out.call HS4.out.st hHeld.2.2) hRR).mono ?_
                rintro e wN ⟨rfl, bN⟩
                try (go_wp2_with fail)
                refine hK.out _ _ (⟨cell_later bN hHeld.1, cell_later bN hHeld.2.1, hHeld.2.2.trans (bN.mono hHeld.2.2.size)⟩) (fun hHeld => ?_)
                clear hK K
                try simp only [Act.put, List.setIfInBounds_toArray, List.set_cons_zero, List.set_cons_succ]
                clear bN
                refine wpAnyH_take (i := 30) (oi := _) (v := ?v38) (by simp only [List.getElem?_toArray, List.getElem?_cons_succ, List.getElem?_cons_zero]; rfl) (by kernel_rfl) (by kernel_rfl) (by kernel_rfl) (fun _ _ _ h => h) (Or.inl ⟨by rfl, ?y38⟩) hHeld ?r38
                case y38 => (intro w hSw; (try dsimp only at hSw); go_simp; try with_reducible rfl)
                try simp only [Act.put, List.setIfInBounds_toArray, List.set_cons_zero, List.set_cons_succ]
                refine wpAnyH_take (i := 31) (oi := _) (v := ?v39) (by simp only [List.getElem?_toArray, List.getElem?_cons_succ, List.getElem?_cons_zero]; rfl) (by kernel_rfl) (by kernel_rfl) (by kernel_rfl) (fun _ _ _ h => h) (Or.inl ⟨by rfl, ?y39⟩) hHeld ?r39
                case y39 => (intro w hSw; (try dsimp only at hSw); go_simp; try with_reducible rfl)
                try simp only [Act.put, List.setIfInBounds_toArray, List.set_cons_zero, List.set_cons_succ]
                refine wpAnyH_take (i := 32) (oi := _) (v := ?v40) (by simp only [List.getElem?_toArray, List.getElem?_cons_succ, List.getElem?_cons_zero]; rfl) (by kernel_rfl) (by kernel_rfl) (by kernel_rfl) (fun _ _ _ h => h) (Or.inl ⟨by rfl, ?y40⟩) hHeld ?r40
                case y40 => (intro w hSw; (try dsimp only at hSw); go_simp; try with_reducible rfl)
                try simp only [Act.put, List.setIfInBounds_toArray, List.set_cons_zero, List.set_cons_succ]
                refine wpAnyH_take (i := 33) (oi := _) (v := ?v41) (by simp only [List.getElem?_toArray, List.getElem?_cons_succ, List.getElem?_cons_zero]; rfl) (by kernel_rfl) (by kernel_rfl) (by kernel_rfl) (fun _ _ _ h => h) (Or.inl ⟨by rfl, ?y41⟩) hHeld ?r41
                case y41 => (intro w hSw; (try dsimp only at hSw); go_simp; try with_reducible rfl)
                try simp only [Act.put, List.setIfInBounds_toArray, List.set_cons_zero, List.set_cons_succ]
                refine wpAnyH_take (i := 34) (oi := _) (v := ?v42) (by simp only [List.getElem?_toArray, List.getElem?_cons_succ, List.getElem?_cons_zero]; rfl) (by kernel_rfl) (by kernel_rfl) (by kernel_rfl) (fun _ _ _ h => h) (Or.inl ⟨by rfl, ?y42⟩) hHeld ?r42
                case y42 => (intro w hSw; (try dsimp only at hSw); go_simp; try with_reducible rfl)
                try simp only [Act.put, List.setIfInBounds_toArray, List.set_cons_zero, List.set_cons_succ]
                refine wpAnyH_take (i := 36) (oi := _) (v := ?v43) (by simp only [List.getElem?_toArray, List.getElem?_cons_succ, List.getElem?_cons_zero]; rfl) (by kernel_rfl) (by kernel_rfl) (by kernel_rfl) (fun _ _ _ h => h) (Or.inl ⟨by rfl, ?y43⟩) hHeld ?r43
                case y43 => (intro w hSw; (try dsimp only at hSw); go_simp; try with_reducible rfl)
                try simp only [Act.put, List.setIfInBounds_toArray, List.set_cons_zero, List.set_cons_succ]
                refine wpAnyH_take (i := 37) (oi := _) (v := ?v44) (by simp only [List.getElem?_toArray, List.getElem?_cons_succ, List.getElem?_cons_zero]; rfl) (by kernel_rfl) (by kernel_rfl) (by kernel_rfl) (fun _ _ _ h => h) (Or.inl ⟨by rfl, ?y44⟩) hHeld ?r44
                case y44 => (intro w hSw; (try dsimp only at hSw); go_simp; try with_reducible rfl)
                try simp only [Act.put, List.setIfInBounds_toArray, List.set_cons_zero, List.set_cons_succ]
                refine wpAnyH_take (i := 38) (oi := _) (v := ?v45) (by simp only [List.getElem?_toArray, List.getElem?_cons_succ, List.getElem?_cons_zero]; rfl) (by kernel_rfl) (by kernel_rfl) (by kernel_rfl) (fun _ _ _ h => h) (Or.inl ⟨by rfl, ?y45⟩) hHeld ?r45
                case y45 => (intro w hSw; (try dsimp only at hSw); go_simp; try with_reducible rfl)
                try simp only [Act.put, List.setIfInBounds_toArray, List.set_cons_zero, List.set_cons_succ]
                refine wpAnyH_take (i := 39) (oi := _) (v := ?v46) (by simp only [List.getElem?_toArray, List.getElem?_cons_succ, List.getElem?_cons_zero]; rfl) (by kernel_rfl) (by kernel_rfl) (by kernel_rfl) (fun _ _ _ h => h) (Or.inl ⟨by rfl, ?y46⟩) hHeld ?r46
                case y46 => (intro w hSw; (try dsimp only at hSw); go_simp; try with_reducible rfl)
                try simp only [Act.put, List.setIfInBounds_toArray, List.set_cons_zero, List.set_cons_succ]
                refine wpAnyH_take (i := 40) (oi := _) (v := ?v47) (by simp only [List.getElem?_toArray, List.getElem?_cons_succ, List.getElem?_cons_zero]; rfl) (by kernel_rfl) (by kernel_rfl) (by kernel_rfl) (fun _ _ _ h => h) (Or.inl ⟨by rfl, ?y47⟩) hHeld ?r47
                case y47 => (intro w hSw; (try dsimp only at hSw); go_simp; try with_reducible rfl)
                try simp only [Act.put, List.setIfInBounds_toArray, List.set_cons_zero, List.set_cons_succ]
                refine wpAnyH_ready (rs := [35]) (by kernel_rfl) (by simp) ?_
                refine AllReadyH.cons (o := _) (by simp only [List.getElem?_toArray, List.getElem?_cons_succ, List.getElem?_cons_zero]; rfl) (fun K hK => ?_) AllReadyH.nil
                go_simp
                refine (HD.out.at_ _ B S3 m RR i (HD.out.call HS4.out.st hHeld.2.2) hRR HI.out).mono ?_
                rintro e wN ⟨rfl, bN⟩
                try (go_wp2_with fail)
                refine hK.out _ _ (⟨cell_later bN hHeld.1, cell_later bN hHeld.2.1, hHeld.2.2.trans (bN.mono hHeld.2.2.size)⟩) (fun hHeld => ?_)
                clear hK K
                try simp only [Act.put, List.setIfInBounds_toArray, List.set_cons_zero, List.set_cons_succ]
                clear bN
                refine wpAnyH_ready (rs := [41]) (by kernel_rfl) (by simp) ?_
                refine AllReadyH.cons (o := _) (by simp only [List.getElem?_toArray, List.getElem?_cons_succ, List.getElem?_cons_zero]; rfl) (fun K hK => ?_) AllReadyH.nil
                go_simp
                refine (rcount_any _ Av cv RR i (countP RR i) (HPV.out.call hHeld.2.2) (by omega) HI.out rfl (by have := HCR.out.cnt i; have := HCR.out.sum; omega)).mono ?_
                rintro e wN ⟨rfl, bN⟩
                try (go_wp2_with fail)
                refine hK.out _ _ (⟨cell_later bN hHeld.1, cell_later bN hHeld.2.1, hHeld.2.2.trans (bN.mono hHeld.2.2.size)⟩) (fun hHeld => ?_)
                clear hK K
                try simp only [Act.put, List.setIfInBounds_toArray, List.set_cons_zero, List.set_cons_succ]
                clear bN
                refine wpAnyH_take (i := 42) (oi := _) (v := ?v48) (by simp only [List.getElem?_toArray, List.getElem?_cons_succ, List.getElem?_cons_zero]; rfl) (by kernel_rfl) (by kernel_rfl) (by kernel_rfl) (fun _ _ _ h => h) (Or.inl ⟨by rfl, ?y48⟩) hHeld ?r48
                case y48 => (intro w hSw; (try dsimp only at hSw); go_simp; try with_reducible rfl)
                try simp only [Act.put, List.setIfInBounds_toArray, List.set_cons_zero, List.set_cons_succ]
                refine wpAnyH_take (i := 43) (oi := _) (v := ?v49) (by simp only [List.getElem?_toArray, List.getElem?_cons_succ, List.getElem?_cons_zero]; rfl) (by kernel_rfl) (by kernel_rfl) (by kernel_rfl) (fun _ _ _ h => h) (Or.inl ⟨by rfl, ?y49⟩) hHeld ?r49
                case y49 => (intro w hSw; (try dsimp only at hSw); go_simp; try with_reducible rfl)
                try simp only [Act.put, List.setIfInBounds_toArray, List.set_cons_zero, List.set_cons_succ]
                refine wpAnyH_take (i := 44) (oi := _) (v := ?v50) (by simp only [List.getElem?_toArray, List.getElem?_cons_succ, List.getElem?_cons_zero]; rfl) (by kernel_rfl) (by kernel_rfl) (by kernel_rfl) (fun _ _ _ h => h) (Or.inl ⟨by rfl, ?y50⟩) hHeld ?r50
                case y50 => (intro w hSw; (try dsimp only at hSw); go_simp; try with_reducible rfl)
                try simp only [Act.put, List.setIfInBounds_toArray, List.set_cons_zero, List.set_cons_succ]
                refine wpAnyH_take (i := 45) (oi := _) (v := ?v51) (by simp only [List.getElem?_toArray, List.getElem?_cons_succ, List.getElem?_cons_zero]; rfl) (by kernel_rfl) (by kernel_rfl) (by kernel_rfl) (fun _ _ _ h => h) (Or.inl ⟨by rfl, ?y51⟩) hHeld ?r51
                case y51 => (intro w hSw; (try dsimp only at hSw); go_simp; try with_reducible rfl)
                try simp only [Act.put, List.setIfInBounds_toArray, List.set_cons_zero, List.set_cons_succ]
                refine wpAnyH_take (i := 46) (oi := _) (v := ?v52) (by simp only [List.getElem?_toArray, List.getElem?_cons_succ, List.getElem?_cons_zero]; rfl) (by kernel_rfl) (by kernel_rfl) (by kernel_rfl) (fun _ _ _ h => h) (Or.inl ⟨by rfl, ?y52⟩) hHeld ?r52
                case y52 => (intro w hSw; (try dsimp only at hSw); go_simp; try with_reducible rfl)
                try simp only [Act.put, List.setIfInBounds_toArray, List.set_cons_zero, List.set_cons_succ]
                refine wpAnyH_take (i := 47) (oi := _) (v := ?v53) (by simp only [List.getElem?_toArray, List.getElem?_cons_succ, List.getElem?_cons_zero]; rfl) (by kernel_rfl) (by kernel_rfl) (by kernel_rfl) (fun _ _ _ h => h) (Or.inl ⟨by rfl, ?y53⟩) hHeld ?r53
                case y53 => (intro w hSw; (try dsimp only at hSw); go_simp; try with_reducible rfl)
                try simp only [Act.put, List.setIfInBounds_toArray, List.set_cons_zero, List.set_cons_succ]
                refine wpAnyH_take (i := 49) (oi := _) (v := ?v54) (by simp only [List.getElem?_toArray, List.getElem?_cons_succ, List.getElem?_cons_zero]; rfl) (by kernel_rfl) (by kernel_rfl) (by kernel_rfl) (fun _ _ _ h => h) (Or.inl ⟨by rfl, ?y54⟩) hHeld ?r54
                case y54 => (intro w hSw; (try dsimp only at hSw); go_simp; try with_reducible rfl)
                try simp only [Act.put, List.setIfInBounds_toArray, List.set_cons_zero, List.set_cons_succ]
                refine wpAnyH_take (i := 50) (oi := _) (v := ?v55) (by simp only [List.getElem?_toArray, List.getElem?_cons_succ, List.getElem?_cons_zero]; rfl) (by kernel_rfl) (by kernel_rfl) (by kernel_rfl) (fun _ _ _ h => h) (Or.inl ⟨by rfl, ?y55⟩) hHeld ?r55
                case y55 => (intro w hSw; (try dsimp only at hSw); go_simp; try with_reducible rfl)
                try simp only [Act.put, List.setIfInBounds_toArray, List.set_cons_zero, List.set_cons_succ]
                refine wpAnyH_take (i := 51) (oi := _) (v := ?v56) (by simp only [List.getElem?_toArray, List.getElem?_cons_succ, List.getElem?_cons_zero]; rfl) (by kernel_rfl) (by kernel_rfl) (by kernel_rfl) (fun _ _ _ h => h) (Or.inl ⟨by rfl, ?y56⟩) hHeld ?r56
                case y56 => (intro w hSw; (try dsimp only at hSw); go_simp; try with_reducible rfl)
                try simp only [Act.put, List.setIfInBounds_toArray, List.set_cons_zero, List.set_cons_succ]
                refine wpAnyH_take (i := 52) (oi := _) (v := ?v57) (by simp only [List.getElem?_toArray, List.getElem?_cons_succ, List.getElem?_cons_zero]; rfl) (by kernel_rfl) (by kernel_rfl) (by kernel_rfl) (fun _ _ _ h => h) (Or.inl ⟨by rfl, ?y57⟩) hHeld ?r57
                case y57 => (intro w hSw; (try dsimp only at hSw); go_simp; try with_reducible rfl)
                try simp only [Act.put, List.setIfInBounds_toArray, List.set_cons_zero, List.set_cons_succ]
                refine wpAnyH_take (i := 53) (oi := _) (v := ?v58) (by simp only [List.getElem?_toArray, List.getElem?_cons_succ, List.getElem?_cons_zero]; rfl) (by kernel_rfl) (by kernel_rfl) (by kernel_rfl) (fun _ _ _ h => h) (Or.inl ⟨by rfl, ?y58⟩) hHeld ?r58
                case y58 => (intro w hSw; (try dsimp only at hSw); go_simp; try with_reducible rfl)
                try simp only [Act.put, List.setIfInBounds_toArray, List.set_cons_zero, List.set_cons_succ]
                refine wpAnyH_take (i := 54) (oi := _) (v := ?v59) (by simp only [List.getElem?_toArray, List.getElem?_cons_succ, List.getElem?_cons_zero]; rfl) (by kernel_rfl) (by kernel_rfl) (by kernel_rfl) (fun _ _ _ h => h) (Or.inl ⟨by rfl, ?y59⟩) hHeld ?r59
                case y59 => (intro w hSw; (try dsimp only at hSw); go_simp; try with_reducible rfl)
                try simp only [Act.put, List.setIfInBounds_toArray, List.set_cons_zero, List.set_cons_succ]
                refine wpAnyH_ready (rs := [48]) (by kernel_rfl) (by simp) ?_
                refine AllReadyH.cons (o := _) (by simp only [List.getElem?_toArray, List.getElem?_cons_succ, List.getElem?_cons_zero]; rfl) (fun K hK => ?_) AllReadyH.nil
                go_simp
                refine (HD.out.at_ _ B S3 m RR xi (HD.out.call HS4.out.st hHeld.2.2) hRR HOK.out.2.1).mono ?_
                rintro e wN ⟨rfl, bN⟩
                try (go_wp2_with fail)
                refine hK.out _ _ (⟨cell_later bN hHeld.1, cell_later bN hHeld.2.1, hHeld.2.2.trans (bN.mono hHeld.2.2.size)⟩) (fun hHeld => ?_)
                clear hK K
                try simp only [Act.put, List.setIfInBounds_toArray, List.set_cons_zero, List.set_cons_succ]
                clear bN
                refine wpAnyH_ready (rs := [55]) (by kernel_rfl) (by simp) ?_
                refine AllReadyH.cons (o := _) (by simp only [List.getElem?_toArray, List.getElem?_cons_succ, List.getElem?_cons_zero]; rfl) (fun K hK => ?_) AllReadyH.nil
                go_simp
                refine (rcount_any _ Av cv RR xi (countP RR xi) (HPV.out.call hHeld.2.2) (by omega) HOK.out.2.1 rfl (by have := HCR.out.cnt xi; have := HCR.out.sum; omega)).mono ?_
                rintro e wN ⟨rfl, bN⟩
                try (go_wp2_with fail)
                refine hK.out _ _ (⟨cell_later bN hHeld.1, cell_later bN hHeld.2.1, hHeld.2.2.trans (bN.mono hHeld.2.2.size)⟩) (fun hHeld => ?_)
                clear hK K
                try simp only [Act.put, List.setIfInBounds_toArray, List.set_cons_zero, List.set_cons_succ]
                clear bN
                refine wpAnyH_take (i := 56) (oi := _) (v := ?v60) (by simp only [List.getElem?_toArray, List.getElem?_cons_succ, List.getElem?_cons_zero]; rfl) (by kernel_rfl) (by kernel_rfl) (by kernel_rfl) (fun _ _ _ h => h) (Or.inl ⟨by rfl, ?y60⟩) hHeld ?r60
                case y60 => (intro w hSw; (try dsimp only at hSw); go_simp; try with_reducible rfl)
                try simp only [Act.put, List.setIfInBounds_toArray, List.set_cons_zero, List.set_cons_succ]
                refine wpAnyH_take (i := 57) (oi := _) (v := ?v61) (by simp only [List.getElem?_toArray, List.getElem?_cons_succ, List.getElem?_cons_zero]; rfl) (by kernel_rfl) (by kernel_rfl) (by kernel_rfl) (fun _ _ _ h => h) (Or.inl ⟨by rfl, ?y61⟩) hHeld ?r61
                case y61 => (intro w hSw; (try dsimp only at hSw); go_simp; try with_reducible rfl)
                try simp only [Act.put, List.setIfInBounds_toArray, List.set_cons_zero, List.set_cons_succ]
                refine wpAnyH_done (by kernel_rfl) ?_ _
                refine NoPanic.normal ?_
                go_wp2_with fail
                go_meet
                exact ⟨rfl, hHeld.2.2⟩
            case rest =>
              obtain ⟨rfl, hh⟩ := hcut
              have hb6 := HB4.out.trans (hh.mono HB4.out.size)
              have HS6 := Lib.hid (Side.call HD.out HS4.out hh)
              have HP6 := Lib.hid (HPV.out.call hh)
              have HB6 := Lib.hid hb6
              clear hh hb6 HS4 HPV hx cm4
              go_wp2_with fail
              as_aux_lemma =>
                refine (HD.out.ends _ B S3 m RR HS6.out.st hRR).mono ?_
                rintro e w7 ⟨rfl, b7⟩
                have HS7 := Lib.hid (Side.call HD.out HS6.out b7)
                have HP7 := Lib.hid (HP6.out.call b7)
                have HB7 := Lib.hid (HB6.out.trans (b7.mono HB6.out.size))
                clear b7 HS6 HP6 HB6
                have cm7 := HS7.out.rf.1.c1
                obtain ⟨N, hN⟩ : ∃ N, RR.length = N := ⟨_, rfl⟩
                rw [hN] at cm7
                by_cases hne : RR = []
                · have hN0 : N = 0 := by rw [← hN, hne]; rfl
                  subst hN0
                  have HF : Hid ((firP RR).1 = 0 ∧ (lasP RR).1 = 0 ∧ (!RR.isEmpty) = false) := Lib.hid (by subst hne; exact ⟨rfl, rfl, rfl⟩)
                  rw [HF.out.1, HF.out.2.1, HF.out.2.2]
                  clear hne hN
                  go_wp2_with fail
                  go_quiet (fail)
                  go_wp2_with fail
                  go_roundg (L.length - (k + 1))
                  case measure => omega
                  case rel => exact ⟨k + 1, S3, _, RR, hlt, rfl, by go_num, Side.call HD.out HS7.out (below_drewN (Below.refl _ _) _), HRL.out, below_drewN HB7.out _⟩
                · have hpos : 0 < N := by rw [← hN]; cases RR with
                    | nil => exact absurd rfl hne
                    | cons p r => simp
                  obtain ⟨nn, hnn⟩ : ∃ nn, N - 1 = nn := ⟨_, rfl⟩
                  obtain ⟨px, pc, hx0⟩ : ∃ px pc, RR[0]? = some (px, pc) := by
                    have h1 : 0 < RR.length := by omega
                    exact ⟨RR[0].1, RR[0].2, List.getElem?_eq_getElem h1⟩
                  obtain ⟨qx, qc, hx1⟩ : ∃ qx qc, RR[nn]? = some (qx, qc) := by
                    have h1 : nn < RR.length := by omega
                    exact ⟨RR[nn].1, RR[nn].2, List.getElem?_eq_getElem h1⟩
                  have HF : Hid ((firP RR).1 = px ∧ (lasP RR).1 = qx ∧ (!RR.isEmpty) = true) := Lib.hid (by
                    refine ⟨?_, ?_, ?_⟩
                    · unfold firP; rw [List.head?_eq_getElem?, hx0]; rfl
                    · unfold lasP; rw [List.getLast?_eq_getElem?, hN, hnn, hx1]; rfl
                    · cases RR with
                      | nil => exact absurd rfl hne
                      | cons p r => rfl)
                  rw [HF.out.1, HF.out.2.1, HF.out.2.2]
                  obtain ⟨bq, oq, rfl, hbq, d0, d1⟩ := HP7.out.at_ 0 _ hx0
                  obtain ⟨b', o', e', _, g0, g1⟩ := HP7.out.at_ nn _ hx1
                  obtain ⟨rfl, rfl, _⟩ := Addr.mk.inj (Option.some.inj e')
                  simp only [Nat.zero_mul, Nat.add_zero] at d0 d1
                  simp only at g0 g1
                  have kN : (0 : Int) < (N : Int) := by omega
                  have kN1 : decide ((0 : Int) < (N : Int)) = true := decide_eq_true kN
                  have u1 : IntKind.i64.wrap ((N : Int) - 1) = (nn : Int) := by rw [IntKind.wrap_i64]; omega
                  have u2 : (N : Int) - 1 = (nn : Int) := by omega
                  have u3 : (nn : Int) < (N : Int) := by omega
                  have u4 : (0 : Int) ≤ (nn : Int) := by omega
                  have u5 : IntKind.i64.wrap (nn : Int) = (nn : Int) := by rw [IntKind.wrap_i64]; omega
                  clear hx0 hx1 hne hN e'
                  go_wp2_with fail
                  go_quiet (fail)
                  go_wp2_with fail
                  go_roundg (L.length - (k + 1))
                  case measure => omega
                  case rel => exact ⟨k + 1, S3, _, RR, hlt, rfl, by go_num, Side.call HD.out HS7.out (below_drewN (Below.refl _ _) _), HRL.out, below_drewN HB7.out _⟩
        · obtain rfl : k = L.length := by omega
          have kk : ¬ (L.length : Int) < L.length := by omega
          go_wp2_with fail
          go_ret
          exact ⟨rfl, hb2⟩
    · have q1 : decide (m < 1) || decide (4096 < m) := by rcases hbad with h | h <;> simp [h]
      clear HOR HBN
      by_cases q2 : m < 1
      · go_wp2_with fail
        go_ret
        exact ⟨rfl, hb11⟩
      · have q3 : 4096 < m := by omega
        go_wp2_with fail
        go_ret
        exact ⟨rfl, hb11⟩
  · have q0 : (100 : Int) < L.length := by omega
    go_enter Try.func3, Try.ntmps3
    go_wp2_with fail
    refine (salive_any HD.out _).mono ?_
    rintro e w0 ⟨rfl, b0⟩
    go_wp2_with fail
    go_ret
    exact ⟨rfl, b0⟩
end Go.Proofs.Ytnhhehinbobknaa
