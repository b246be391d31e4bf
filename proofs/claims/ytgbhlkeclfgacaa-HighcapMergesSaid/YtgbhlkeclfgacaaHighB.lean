/-
  The laws of highcap: alive, great, build.
-/
import Derived.Test.YtgbhlkeclfgacaaRef10
import Derived.Deep.RegionWith
import Derived.Deep.LoopGhost
namespace Go.Proofs.Ytgbhlkeclfgacaa
set_option linter.unusedVariables false
set_option linter.unusedSimpArgs false
open Go.RowKit

theorem hw_alive : lwErr 0 1 = 0 ∧ hgRow 2 [] 0 5 1 = [(5, 1)] ∧ lwSum 0 1 = 1 ∧ lwErr 1 1 = 0 ∧ hgRow 2 [(5, 1)] 1 7 1 = [(5, 1)] ∧ lwSum 1 1 = 2 ∧ (2 : Int) - sumP [(5, 1)] = 1 ∧ countP [(5, 1)] 5 = 1 := by decide

set_option maxRecDepth 100000 in
set_option maxHeartbeats 1000000 in
theorem lalive_any {Hw : World → Nat → (Nat → Prop) → Int → List PairV → Int → Prop} (D : HighDoes Hw) (w : World) :
    Calls Try.prog 8 #[] w fun e w' => e = .returned (.bool true) ∧ Below w.heap.size w w' := by
  have HD := Lib.hid D
  obtain ⟨e1, r1, s1, e2, r2, s2, l2, c2⟩ := hw_alive
  have E1 := Lib.hid e1
  have R1 := Lib.hid r1
  have S1 := Lib.hid s1
  have E2 := Lib.hid e2
  have R2 := Lib.hid r2
  have S2 := Lib.hid s2
  have L2 := Lib.hid l2
  have C2 := Lib.hid c2
  clear D e1 r1 s1 e2 r2 s2 l2 c2
  go_enter Try.func8, Try.ntmps8
  go_wp2_with fail
  refine (HD.out.new _ 2 (by decide) (by decide)).mono ?_
  rintro e w1 ⟨B, S, rfl, h1, hs1, b1⟩
  have H1 := Lib.hid h1
  have HS1 := Lib.hid hs1
  have z1 := b1.size
  clear h1 hs1
  go_wp2_with fail
  refine (HD.out.add _ B S 2 [] 0 5 1 H1.out (by decide) ⟨by decide, by decide⟩ ⟨by decide, by decide⟩).mono ?_
  rintro e w2 ⟨S', rfl, h2, k2, hs2⟩
  rw [E1.out]
  rw [R1.out, S1.out] at h2
  have b2 := k2.below b1 z1 HS1.out
  have H2 := Lib.hid h2
  have HS2 : Hid (∀ k, S' k → w.heap.size ≤ k) := Lib.hid fun k hk => by rcases hs2 k hk with h | h; exact HS1.out k h; omega
  have z2 := b2.size
  clear h2 k2 hs2 b1
  go_wp2_with fail
  refine (HD.out.add _ B S' 2 [(5, 1)] 1 7 1 H2.out (by decide) ⟨by decide, by decide⟩ ⟨by decide, by decide⟩).mono ?_
  rintro e w3 ⟨S3, rfl, h3, k3, hs3⟩
  rw [E2.out]
  rw [R2.out, S2.out] at h3
  have b3 := k3.below b2 z2 HS2.out
  have H3 := Lib.hid h3
  have z3 := b3.size
  clear h3 k3 hs3 b2
  go_wp2_with fail
  refine (HD.out.lost _ B S3 2 [(5, 1)] 2 H3.out).mono ?_
  rintro e w4 ⟨rfl, b4⟩
  rw [L2.out]
  have H4 := Lib.hid (HD.out.call H3.out b4)
  have b5 := b3.trans (b4.mono z3)
  have z5 := b5.size
  clear b4 b3
  go_wp2_with fail
  refine (HD.out.total _ B S3 2 [(5, 1)] 2 H4.out (by decide)).mono ?_
  rintro e w6 ⟨rfl, b6⟩
  have H6 := Lib.hid (HD.out.call H4.out b6)
  have b7 := b5.trans (b6.mono z5)
  have z7 := b7.size
  clear b6 b5
  go_wp2_with fail
  refine (HD.out.at_ _ B S3 2 [(5, 1)] 2 5 H6.out (by decide) ⟨by decide, by decide⟩).mono ?_
  rintro e w8 ⟨rfl, b8⟩
  rw [C2.out]
  have b9 := b7.trans (b8.mono z7)
  clear b7 b8
  go_wp2_with fail
  go_ret
  exact ⟨rfl, b9⟩

/-- More than is played. -/
def fineP (p : PairV) : Bool := decide (0 < p.2) && decide (p.2 ≤ 1125899906842624)
def grtB (m : Int) (L : List PairV) : Bool := !(L.all fineP) || decide (60 < L.length) || decide (m < 1) || decide (4096 < m)
def FineTo (L : List PairV) (k : Nat) : Prop := (L.take k).all fineP = true
theorem fine_step {L : List PairV} {k : Nat} {p : PairV} (h : FineTo L k) (hk : L[k]? = some p) (hp : fineP p = true) : FineTo L (k + 1) := by
  unfold FineTo at *
  rw [take_snocP hk, List.all_append, h]
  simp [hp]
theorem fine_not {L : List PairV} {k : Nat} {p : PairV} (hk : L[k]? = some p) (hp : fineP p = false) : L.all fineP = false := by
  cases h : L.all fineP with
  | false => rfl
  | true => have := List.all_eq_true.1 h p (List.mem_of_getElem? hk); rw [hp] at this; cases this
structure Played (m : Int) (L : List PairV) : Prop where
  each : ∀ p, p ∈ L → 0 < p.2 ∧ p.2 ≤ 1125899906842624
  len : L.length ≤ 60
  m1 : 1 ≤ m
  m2 : m ≤ 4096
theorem grt_false {m : Int} {L : List PairV} : grtB m L = false ↔ Played m L := by
  unfold grtB
  simp only [Bool.or_eq_false_iff, Bool.not_eq_false', decide_eq_false_iff_not, List.all_eq_true]
  constructor
  · rintro ⟨⟨⟨h1, h2⟩, h3⟩, h4⟩
    refine ⟨fun p hp => ?_, by omega, by omega, by omega⟩
    have := h1 p hp
    unfold fineP at this
    simp only [Bool.and_eq_true, decide_eq_true_eq] at this
    exact this
  · rintro ⟨h1, h2, h3, h4⟩
    refine ⟨⟨⟨fun p hp => ?_, by omega⟩, by omega⟩, by omega⟩
    unfold fineP
    simp only [Bool.and_eq_true, decide_eq_true_eq]
    exact h1 p hp

set_option maxRecDepth 100000 in
set_option maxHeartbeats 2000000 in
theorem grt_any (w : World) (m : Int) (A : Option Addr) (cap : Nat) (L : List PairV) (b : Bool) (h : Pairs w A L) (hl : L.length ≤ 140737488351232) (hm : I64 m) (hb : grtB m L = b) :
    Calls Try.prog 9 #[.int .i64 m, .slice A L.length cap] w fun e w' => e = .returned (.bool b) ∧ Below w.heap.size w w' := by
  have HP := Lib.hid h
  have HB := Lib.hid hb
  obtain ⟨m0, m1⟩ := hm
  clear h hb
  go_enter Try.func9, Try.ntmps9
  go_wp2_with fail
  go_loopw [9] (fun j wr => ∃ (k : Nat), k ≤ L.length ∧ j = .int .i64 k ∧ FineTo L k ∧ Below w.heap.size w wr) (fun j _ => L.length - (intOf j).toNat)
  case atStart => exact ⟨0, Nat.zero_le _, rfl, rfl, Below.refl _ _⟩
  case round =>
    obtain ⟨k, hk, rfl, hf, hb2⟩ := hrel
    have hbs := hb2.size
    have HF := Lib.hid hf
    clear hf
    by_cases hlt : k < L.length
    · have kk : (k : Int) < L.length := by omega
      have hxk : L[k]? = some L[k] := List.getElem?_eq_getElem hlt
      generalize hit : L[k] = x at *
      obtain ⟨xi, xc⟩ := x
      obtain ⟨b1, off, rfl, hbl, c0, c1⟩ := (HP.out.call hb2).at_ k _ hxk
      simp only at c0 c1
      have hok := HP.out.ok _ (List.mem_of_getElem? hxk)
      obtain ⟨⟨o1, o2⟩, o3, o4⟩ := hok
      simp only at o1 o2 o3 o4
      have HXK := Lib.hid hxk
      have hba := hb2.alloc hbs (.cells #[.int .i64 xi, .int .u64 xc] 34)
      clear hxk hit
      by_cases h1 : 1125899906842624 < xc
      · have HN : Hid (true = b) := Lib.hid (by
          rw [← HB.out]; unfold grtB
          rw [fine_not HXK.out (by unfold fineP; simp only []; rw [decide_eq_false (show ¬ xc ≤ 1125899906842624 by omega), Bool.and_false])]; simp)
        go_wp2_with fail
        go_ret
        exact ⟨by rw [← HN.out]; rfl, hba⟩
      · by_cases h2 : xc = 0
        · have HN : Hid (true = b) := Lib.hid (by
            rw [← HB.out]; unfold grtB
            rw [fine_not HXK.out (by unfold fineP; simp only []; rw [decide_eq_false (show ¬ 0 < xc by omega), Bool.false_and])]; simp)
          subst h2
          go_wp2_with fail
          go_ret
          exact ⟨by rw [← HN.out]; rfl, hba⟩
        · have h3 : (xc == 0) = false := by simp [h2]
          have HN := Lib.hid (fine_step HF.out HXK.out (by unfold fineP; simp only []; rw [decide_eq_true (show 0 < xc by omega), decide_eq_true (show xc ≤ 1125899906842624 by omega)]; rfl))
          go_wp2_with fail
          go_roundw
          case rel => exact ⟨k + 1, by omega, by go_num, HN.out, hba⟩
          case measure => simp [intOf]; omega
    · obtain rfl : k = L.length := by omega
      have kk : ¬ (L.length : Int) < L.length := by omega
      have hf : L.all fineP = true := by have := HF.out; unfold FineTo at this; rwa [List.take_length] at this
      have hbb : (decide (60 < L.length) || decide (m < 1) || decide (4096 < m)) = b := by
        rw [← HB.out]; unfold grtB; rw [hf]; simp
      have HBB := Lib.hid hbb
      clear hf hbb
      by_cases g1 : 60 < L.length
      · have g1' : (60 : Int) < L.length := by omega
        have E : Hid (true = b) := Lib.hid (by rw [← HBB.out, decide_eq_true g1]; simp)
        go_wp2_with fail
        go_ret
        exact ⟨by rw [← E.out]; rfl, hb2⟩
      · have g1' : ¬ (60 : Int) < L.length := by omega
        by_cases g2 : m < 1
        · have E : Hid (true = b) := Lib.hid (by rw [← HBB.out, decide_eq_true g2]; simp)
          go_wp2_with fail
          go_ret
          exact ⟨by rw [← E.out]; rfl, hb2⟩
        · have E : Hid (decide (4096 < m) = b) := Lib.hid (by rw [← HBB.out, decide_eq_false g1, decide_eq_false g2]; simp)
          go_wp2_with fail
          go_ret
          exact ⟨by rw [← E.out]; rfl, hb2⟩

/-- All that was added so far. -/
structure Sum50 (A : List PairV) (k : Nat) : Prop where
  good : GoodP A
  ok : ∀ p, p ∈ A → okP p
  len : A.length ≤ k
  sum : sumP A ≤ k * 1125899906842624
theorem Sum50.nil : Sum50 [] 0 := ⟨good_nil, fun p h => (by cases h), Nat.le_refl _, Int.le_refl _⟩
theorem Sum50.add {A : List PairV} {k : Nat} (h : Sum50 A k) {p : PairV} (hp : okP p) (h0 : 0 < p.2) (hc : p.2 ≤ 1125899906842624) (hk : k ≤ 1000) : Sum50 (addP A p.1 p.2) (k + 1) ∧ sumP (addP A p.1 p.2) = sumP A + p.2 := by
  have h1 := count_le_sum p.1 (ok_pos h.ok)
  have h2 := h.sum
  have hs := add_sum (L := A) (i := p.1) (c := p.2) (by omega)
  exact ⟨⟨add_good h.good (by omega), add_ok h.ok hp.1 (by omega), Nat.le_trans (add_len _ _ _) (by have := h.len; omega), by rw [hs]; push_cast; omega⟩, hs⟩
/-- A highcap and all that was added to it, side by side. -/
structure SideH (Hw : World → Nat → (Nat → Prop) → Int → List PairV → Int → Prop) (base : Nat) (w : World) (B : Nat) (S : Nat → Prop) (m : Int) (A : List PairV) (M : Nat) (v : Value) : Prop where
  st : Hw w B S m (keepH m A) (sumP A)
  rf : RefS w M m v A
  above : ∀ x, S x → base ≤ x
  apart : ∀ x, S x → x ≠ M ∧ v.ownBlock ≠ some x
  mab : base ≤ M
theorem SideH.call {Hw : World → Nat → (Nat → Prop) → Int → List PairV → Int → Prop} (D : HighDoes Hw) {base : Nat} {w w' : World} {B : Nat} {S : Nat → Prop} {m : Int} {A : List PairV} {M : Nat} {v : Value} (h : SideH Hw base w B S m A M v) (hb : Below w.heap.size w w') : SideH Hw base w' B S m A M v :=
  ⟨D.call h.st hb, h.rf.call hb, h.above, h.apart, h.mab⟩
theorem SideH.past {Hw : World → Nat → (Nat → Prop) → Int → List PairV → Int → Prop} {base : Nat} {w w3 : World} {B : Nat} {S : Nat → Prop} {m : Int} {A : List PairV} {M : Nat} {v : Value} (h : SideH Hw base w B S m A M v) (k3 : Keeps S w w3) : RefS w3 M m v A :=
  h.rf.past k3 (fun hx => (h.apart _ hx).1 rfl) (fun g hg hx => (h.apart g hx).2 hg)
/-- .. behind an addition to both. -/
theorem SideH.step {Hw : World → Nat → (Nat → Prop) → Int → List PairV → Int → Prop} (D : HighDoes Hw) {base : Nat} {w w3 wm : World} {B : Nat} {S S3 : Nat → Prop} {m : Int} {A A' : List PairV} {M : Nat} {v v4 : Value} (h : SideH Hw base w B S m A M v)
    (h3 : Hw w3 B S3 m (keepH m A') (sumP A')) (k3 : Keeps S w w3) (hs3 : ∀ k, S3 k → S k ∨ w.heap.size ≤ k) (hbase : base ≤ w.heap.size) (hm : Below w3.heap.size w3 wm) (ho : OwnP wm w3.heap.size v4 A') : SideH Hw base (wm.setCell ⟨M, 1, none⟩ v4) B S3 m A' M v4 := by
  have hM := h.rf.lt
  have z3 := k3.size
  have hlt3 := D.lt _ _ _ _ _ _ h3
  have hr := h.past k3
  have hS3 : ∀ x, S3 x → base ≤ x ∧ x ≠ M := fun x hx => by
    rcases hs3 x hx with a | a
    · exact ⟨h.above x a, (h.apart x a).1⟩
    · exact ⟨by omega, by omega⟩
  obtain ⟨⟨v', hr', hv'⟩, _⟩ := Done8.put hr hm ho
  have hg := grown_setCell wm M 1 v4
  have hc : RefS (wm.setCell ⟨M, 1, none⟩ v4) M m v4 A' := ⟨(hr.1.call hm).put1 v4, own_set8 (own_mono8 ho (by omega)) (by omega) _⟩
  refine ⟨D.keep _ _ _ _ _ _ _ (D.call h3 hm) fun x hx => hg.block x (by have := hlt3 x hx; have := hm.size; omega) (fun e => (hS3 x hx).2 (Option.some.inj e)), hc, fun x hx => (hS3 x hx).1, fun x hx => ⟨(hS3 x hx).2, fun e => ?_⟩, h.mab⟩
  have := (ho.lt x e).1
  have := hlt3 x hx
  omega

set_option maxRecDepth 100000 in
set_option maxHeartbeats 4000000 in
theorem build_any {Hw : World → Nat → (Nat → Prop) → Int → List PairV → Int → Prop} (D : HighDoes Hw) (w : World) (m : Int) (A : Option Addr) (cap : Nat) (L : List PairV) (h : Pairs w A L) (hp : ∀ p, p ∈ L → 0 < p.2 ∧ p.2 ≤ 1125899906842624) (hl : L.length ≤ 120) (m1 : 1 ≤ m) (m2 : m ≤ 4096) :
    Calls Try.prog 23 #[.int .i64 m, .slice A L.length cap] w fun e w' => ∃ B S M v, e = .returned (.tuple #[.pointer (some ⟨B, 0, none⟩), .pointer (some ⟨M, 0, none⟩)]) ∧ SideH Hw w.heap.size w' B S m (foldP L) M v ∧ Sum50 (foldP L) L.length ∧ Below w.heap.size w w' := by
  have HD := Lib.hid D
  have HP := Lib.hid h
  have HE := Lib.hid hp
  have HL := Lib.hid hl
  clear D h hp
  go_enter Try.func23, Try.ntmps23
  go_wp2_with fail
  refine (HD.out.new _ m m1 m2).mono ?_
  rintro e w1 ⟨B, S, rfl, h1, hs1, b1⟩
  obtain ⟨M, hM⟩ : ∃ M, w1.heap.size = M := ⟨_, rfl⟩
  have hlt1 := HD.out.lt _ _ _ _ _ _ h1
  have hbm : Below w1.heap.size w1 (w1.alloc (.cells #[.int .i64 m, .slice none 0 0] 31)) := (Below.refl _ _).alloc (Nat.le_refl _) _
  have HSD : Hid (SideH Hw w.heap.size (w1.alloc (.cells #[.int .i64 m, .slice none 0 0] 31)) B S m [] M (.slice none 0 0)) := Lib.hid
    ⟨HD.out.call h1 hbm, by rw [← hM]; exact RefS.mk_new w1 m _, hs1, fun x hx => ⟨by have := hlt1 x hx; omega, by simp [Value.ownBlock]⟩, by rw [← hM]; exact b1.size⟩
  have hbb := b1.alloc b1.size (.cells #[.int .i64 m, .slice none 0 0] 31)
  clear h1 hs1 b1 hlt1 hbm
  go_wp2_with fail
  clear hM
  go_loopg [21] L.length (fun g j wr => ∃ (k : Nat) (S' : Nat → Prop) (v : Value) (R : List PairV), k ≤ L.length ∧ g = L.length - k ∧ j = .int .i64 k ∧ R = foldP (L.take k) ∧ SideH Hw w.heap.size wr B S' m R M v ∧ Sum50 R k ∧ Below w.heap.size w wr)
  case atStart => exact ⟨0, S, _, [], Nat.zero_le _, rfl, rfl, rfl, HSD.out, Sum50.nil, hbb⟩
  case round =>
    clear hbb HSD
    obtain ⟨k, S', v, R, hk, rfl, rfl, hR, hsd, hsum, hb2⟩ := hrel
    have hbs := hb2.size
    have HSD := Lib.hid hsd
    have HSM := Lib.hid hsum
    have HRR := Lib.hid hR
    clear hsd hsum hR
    by_cases hlt : k < L.length
    · have kk : (k : Int) < L.length := by omega
      have hxk : L[k]? = some L[k] := List.getElem?_eq_getElem hlt
      generalize hit : L[k] = x at *
      obtain ⟨xi, xc⟩ := x
      obtain ⟨b1, off, rfl, hbl, c0, c1⟩ := (HP.out.call hb2).at_ k _ hxk
      simp only at c0 c1
      have hok := HP.out.ok _ (List.mem_of_getElem? hxk)
      have hfe := HE.out _ (List.mem_of_getElem? hxk)
      have HOK := Lib.hid hok
      obtain ⟨hs50, hsadd⟩ := HSM.out.add hok hfe.1 hfe.2 (by omega)
      simp only at hs50 hsadd hfe
      have hRk : addP R xi xc = foldP (L.take (k + 1)) := by rw [take_snocP hxk, fold_snoc, ← HRR.out]
      have HRK := Lib.hid hRk
      have HS50 := Lib.hid hs50
      have HSA := Lib.hid hsadd
      obtain ⟨⟨o1, o2⟩, o3, o4⟩ := hok
      simp only at o1 o2 o3 o4
      have hba := hb2.alloc hbs (.cells #[.int .i64 xi, .int .u64 xc] 34)
      have HSDA := Lib.hid (SideH.call HD.out HSD.out ((Below.refl _ _).alloc (Nat.le_refl _) (.cells #[.int .i64 xi, .int .u64 xc] 34)))
      have hz : lwErr (sumP R) xc = 0 := by
        have h3 := HSM.out.sum
        unfold lwErr; rw [if_neg (by omega), if_neg (by omega)]
      have hcn := count_le_sum xi (ok_pos HSM.out.ok)
      have hle : (keepH m R).length ≤ 700 := Nat.le_trans (keeph_le m R) (by have := HSM.out.len; omega)
      have hrow : hgRow m (keepH m R) (sumP R) xi xc = keepH m (addP R xi xc) := by
        unfold hgRow; rw [if_pos hz]; exact keeph_add (by omega) HSM.out.good (by have := HSM.out.sum; omega) hfe.1
      have hsumm : lwSum (sumP R) xc = sumP (addP R xi xc) := by unfold lwSum; rw [if_pos hz, hsadd]
      have HADD := Lib.hid (HD.out.add _ B S' m (keepH m R) (sumP R) xi xc HSDA.out.st hle HOK.out.1 HOK.out.2)
      rw [hz, hrow, hsumm] at HADD
      have HBA := Lib.hid hba
      obtain ⟨q0, q1⟩ := two_new9 wr (.int .i64 xi) (.int .u64 xc) 34
      obtain ⟨wa, hwa⟩ : ∃ wa, wr.alloc (.cells #[.int .i64 xi, .int .u64 xc] 34) = wa := ⟨_, rfl⟩
      have hza : wa.heap.size = wr.heap.size + 1 := by rw [← hwa]; simp
      rw [hwa] at HSDA HADD HBA q0 q1
      have HZA := Lib.hid hza
      clear hxk hit hs50 hsadd hRk hz hrow hsumm hle hcn hba hza
      go_wp2_with fail
      clear hwa
      refine HADD.out.mono ?_
      rintro e w3 ⟨S3, rfl, h3, k3, hs3⟩
      have hnw : ¬ S' wr.heap.size := fun hx => by have := HD.out.lt _ _ _ _ _ _ HSD.out.st _ hx; omega
      have p0 := k3.cell hnw q0
      have p1 := k3.cell hnw q1
      have hr3 := HSDA.out.past k3
      obtain ⟨av, cv, hve, hPv, d0, d1⟩ := hr3.row HSM.out.ok
      have H3 := Lib.hid h3
      have K3 := Lib.hid k3
      have HS3 := Lib.hid hs3
      have HPV := Lib.hid hPv
      have hb3 := k3.below HBA.out HBA.out.size HSDA.out.above
      have HB3 := Lib.hid hb3
      have frC : Hid (∀ wx, Below w3.drew.heap.size w3.drew wx → wx.frozen? ⟨M, 1, none⟩ = false) := Lib.hid (fun wx hx => (hr3.1.call ((Below.refl _ _).drew.trans hx)).f1)
      have HADR : Hid (∀ wx, Below w3.heap.size w3 wx → Calls Try.prog 12 #[.slice av R.length cv, .int .i64 xi, .int .u64 xc] wx fun e w' => ∃ v, e = .returned v ∧ OwnP w' wx.heap.size v (addP R xi xc) ∧ Below wx.heap.size wx w') := Lib.hid (fun wx hx =>
        radd_any wx av cv R xi xc _ (HPV.out.call hx) (by have := HSM.out.len; omega) HOK.out.1 HOK.out.2 rfl (by have := count_le_sum xi (ok_pos HSM.out.ok); have := HSM.out.sum; omega))
      clear h3 k3 hs3 hPv hb3 hr3 hnw
      go_wp2_with fail
      go_region_with (go_at_call 12; refine (HADR.out _ (Below.refl _ _).drew).mono ?_; rintro e wC ⟨v4, rfl, ho4, hbC⟩; obtain ⟨A4, c4, rfl⟩ := ho4.form; have gC := cell_later ((Below.refl w3.heap.size w3).drew.trans hbC) d1; have fC := frC.out _ hbC)
      all_goals
        have hbC2 : Below w3.heap.size w3 wC := (Below.refl w3.heap.size w3).drew.trans hbC
        have hst := SideH.step HD.out HSDA.out H3.out K3.out HS3.out HBA.out.size hbC2 ho4
        have hb9 := (HB3.out.trans (hbC2.mono HB3.out.size)).setCell (p := ⟨M, 1, none⟩) HSDA.out.mab (.slice A4 (addP R xi xc).length c4)
        have HST := Lib.hid hst
        have HB9 := Lib.hid hb9
        clear hst hb9 ho4 hbC hbC2 gC fC d0 d1 p0 p1 q0 q1 c0 c1
        go_wp2_with fail
        go_roundg (L.length - (k + 1))
        case measure => omega
        case rel => exact ⟨k + 1, S3, _, _, hlt, rfl, by go_num, HRK.out, HST.out, HS50.out, HB9.out⟩
    · obtain rfl : k = L.length := by omega
      have kk : ¬ (L.length : Int) < L.length := by omega
      have hR : R = foldP L := by have := HRR.out; rwa [List.take_length] at this
      subst hR
      go_wp2_with fail
      refine bodyPost_ret (v := .tuple #[.pointer (some ⟨B, 0, none⟩), .pointer (some ⟨M, 0, none⟩)]) (by simp [results, Try.results23, go_sem]) rfl ?_
      exact ⟨B, S', M, rfl, ⟨v, HSD.out⟩, HSM.out, hb2⟩
end Go.Proofs.Ytgbhlkeclfgacaa
