/-
  The law HdrLoads, walked.
-/
import Derived.Test.YtojincgbnjkegaaDoorK4
import Derived.Deep.RegionHeld3
namespace Go.Proofs.YtojincgbnjkegaaDoor
set_option linter.unusedVariables false
set_option linter.unusedSimpArgs false
open Go.RowKit

theorem row_top {d : Int} {L : Nat} {T : Int} (hs : SpanP d L T) : rowV (.spans d L T) true [(-9223372036854775808, 1)] = [(lastS L, 1)] := by
  have h := row_snoc (.spans d L T) true [] (-9223372036854775808, 1)
  rw [List.nil_append] at h
  rw [h, if_pos (by decide)]
  have e : (Pt.spans d L T).idx (mag (-9223372036854775808)) = lastS L := last_idx L (spanp_log hs).2
  have e0 : rowV (.spans d L T) true [] = [] := rfl
  rw [e, e0]
  rfl
theorem okr_nil (L : Nat) : okR L [] = true := by
  unfold okR
  rw [goodB_true.2 good_nil, sumP_nil]
  simp
theorem okr_of {L : Nat} {R : List PairV} (hg : GoodP R) (hi : ∀ p, p ∈ R → 1 ≤ p.1 ∧ p.1 ≤ lastS L) (hs : sumP R ≤ 9223372036854775807) : okR L R = true := by
  unfold okR
  rw [goodB_true.2 hg, decide_eq_true hi, decide_eq_true hs]; rfl
/-- What was built can be loaded. -/
theorem load_same {d : Int} {L : Nat} {T : Int} (hs : SpanP d L T) {A : List PairV} (h : FineV A) (hl : A.length ≤ 1000) :
    hdLoadB L 0 (rowV (.spans d L T) true A) (rowV (.spans d L T) false A) (zeroV A) (loV A) (hiV A) = true := by
  have hP : (Pt.spans d L T).ok := hs
  have S1 := row_sum50 hP true h hl
  have S2 := row_sum50 hP false h hl
  have hall := sides_all hP h hl
  have hbd := fine_bd h hl
  have hz := zero_pos h
  have p1 := sumP_pos (ok_pos S1.ok)
  have p2 := sumP_pos (ok_pos S2.ok)
  have o1 := okr_of S1.good (row_in hs true h hl) (by omega)
  have o2 := okr_of S2.good (row_in hs false h hl) (by omega)
  unfold hdLoadB
  rw [o1, o2, decide_eq_true (show (0 : Int) ≤ 9223372036854775808 by decide), decide_eq_true (show sumP (rowV (.spans d L T) true A) + zeroV A + sumP (rowV (.spans d L T) false A) ≤ 9223372036854775807 by omega)]
  have e1 : decide (loV A ≤ hiV A) = true := by
    by_cases c : A = []
    · subst c; decide
    · obtain ⟨⟨v, hv, _⟩, h1⟩ := lov_facts c
      have := h1 v hv
      have := (hiv_facts c).2 v hv
      exact decide_eq_true (by omega)
  have e2 : decide (sumP (rowV (.spans d L T) true A) + zeroV A + sumP (rowV (.spans d L T) false A) = 0 → loV A = 0 ∧ hiV A = 0) = true := decide_eq_true fun hz0 => by
    have : A = [] := (sum_zero15 h).1 (by omega)
    subst this; exact ⟨rfl, rfl⟩
  rw [e1, e2]; rfl
theorem enda_ends (A : List PairV) : ∃ b, endA A = (loV A, hiV A, b) := by
  unfold endA
  by_cases c : A = []
  · subst c; exact ⟨false, rfl⟩
  · rw [if_neg c]; exact ⟨true, rfl⟩

/-- What the loop wants after so many rounds. -/
def wantI (ls : Int) (R : List PairV) (e0 e1 : Int) (k : Nat) : Bool :=
  goodB R && decide (e0 ≤ e1) && decide (∀ p, p ∈ R.take k → 1 ≤ p.1 ∧ p.1 ≤ ls) && decide (1 + sumP (R.take k) ≤ 9223372036854775807)
theorem wanti_zero (ls : Int) (R : List PairV) (e0 e1 : Int) : wantI ls R e0 e1 0 = (goodB R && decide (e0 ≤ e1)) := by
  unfold wantI
  rw [List.take_zero, sumP_nil, decide_eq_true (show ∀ p, p ∈ ([] : List PairV) → 1 ≤ p.1 ∧ p.1 ≤ ls from fun p h => by cases h), decide_eq_true (show (1 : Int) + 0 ≤ 9223372036854775807 by decide), Bool.and_true, Bool.and_true]
theorem wanti_facts {ls : Int} {R : List PairV} {e0 e1 : Int} {k : Nat} : wantI ls R e0 e1 k = true ↔ (GoodP R ∧ e0 ≤ e1 ∧ (∀ p, p ∈ R.take k → 1 ≤ p.1 ∧ p.1 ≤ ls) ∧ 1 + sumP (R.take k) ≤ 9223372036854775807) := by
  unfold wantI
  simp only [Bool.and_eq_true, decide_eq_true_eq, goodB_true, and_assoc]
theorem wanti_step {ls : Int} {R : List PairV} {e0 e1 : Int} {k : Nat} {xi xc : Int} (h : wantI ls R e0 e1 k = true) (hx : R[k]? = some (xi, xc)) : wantI ls R e0 e1 (k + 1) = (decide (1 + sumP (R.take k) + xc < 9223372036854775808) && (decide (1 ≤ xi) && decide (xi ≤ ls))) := by
  obtain ⟨a, b, c, e⟩ := wanti_facts.1 h
  rw [Bool.eq_iff_iff, wanti_facts, sum_step hx, take_snocP hx]
  simp only [Bool.and_eq_true, decide_eq_true_eq]
  constructor
  · rintro ⟨_, _, c', e'⟩
    have := c' (xi, xc) (List.mem_append.2 (Or.inr (List.mem_singleton.2 rfl)))
    exact ⟨by omega, this.1, this.2⟩
  · rintro ⟨e', c1, c2⟩
    refine ⟨a, b, fun p hp => ?_, by omega⟩
    rcases List.mem_append.1 hp with h1 | h1
    · exact c p h1
    · rw [List.mem_singleton.1 h1]; exact ⟨c1, c2⟩
theorem loadb_row (L : Nat) (R : List PairV) (e0 e1 : Int) (h0 : 0 ≤ sumP R) : hdLoadB L 0 R [] 1 e0 e1 = true ↔ (GoodP R ∧ e0 ≤ e1 ∧ (∀ p, p ∈ R → 1 ≤ p.1 ∧ p.1 ≤ lastS L) ∧ 1 + sumP R ≤ 9223372036854775807) := by
  unfold hdLoadB
  rw [okr_nil, sumP_nil]
  unfold okR
  simp only [Bool.and_eq_true, decide_eq_true_eq, goodB_true]
  constructor
  · rintro ⟨⟨⟨⟨⟨_, ⟨⟨a, b⟩, _⟩⟩, _⟩, c⟩, e⟩, _⟩
    exact ⟨a, e, b, by omega⟩
  · rintro ⟨a, e, b, c⟩
    exact ⟨⟨⟨⟨⟨by omega, ⟨⟨a, b⟩, by omega⟩⟩, trivial⟩, by omega⟩, e⟩, fun h => by omega⟩
theorem wanti_end {L : Nat} {R : List PairV} {e0 e1 : Int} (h0 : 0 ≤ sumP R) {n : Nat} (hn : R.length = n) (h : wantI (lastS L) R e0 e1 n = true) : hdLoadB L 0 R [] 1 e0 e1 = true := by
  obtain ⟨a, b, c, e⟩ := wanti_facts.1 h
  rw [List.take_of_length_le (by omega)] at c e
  exact (loadb_row L R e0 e1 h0).2 ⟨a, b, c, e⟩
theorem wanti_no {L : Nat} {R : List PairV} {e0 e1 : Int} (hp : ∀ p, p ∈ R → 0 ≤ p.2) {k : Nat} (h : wantI (lastS L) R e0 e1 k = false) : hdLoadB L 0 R [] 1 e0 e1 = false := by
  rw [Bool.eq_false_iff]
  intro hc
  have h2 := sum_take_le hp k
  obtain ⟨a, b, c, e⟩ := (loadb_row L R e0 e1 (by omega)).1 hc
  rw [wanti_facts.2 ⟨a, b, fun p hp => c p (List.mem_of_mem_take hp), by omega⟩] at h
  cases h
/-- What the second Load left. -/
def LoadP (St : World → Nat → (Nat → Prop) → Int → List PairV → Prop) (w : World) (d : Int) (L : Nat) (R : List PairV) (e0 e1 : Int) (p : Value) (c : Int) : Prop :=
  (hdLoadB L 0 R [] 1 e0 e1 = true ∧ c = 0 ∧ ∃ B S, p = .pointer (some ⟨B, 0, none⟩) ∧ HdX St w B S d L 0 ⟨R, [], 1, e0, e1⟩) ∨ (hdLoadB L 0 R [] 1 e0 e1 = false ∧ c = 1 ∧ p = .pointer none)

set_option maxRecDepth 100000 in
set_option maxHeartbeats 8000000 in
theorem hdr_loads_walk {St : World → Nat → (Nat → Prop) → Int → List PairV → Prop} (D : StripDoes St) (d : Int) (a : Option Addr) (cap : Nat) (A : List PairV) (x : Int) (ra : Option Addr) (rcap : Nat) (R : List PairV) (e0 e1 : Int) (hd : I64 d) (hx : I64 x) (he0 : I64 e0) (he1 : I64 e1) (w : World) (hA : Pairs w a A) (hl : A.length ≤ 140737488351232) (hR : Pairs w ra R) (hlr : R.length ≤ 140737488351232) (ht : Tens w) :
    Calls Tryd.prog 8 #[.int .i64 d, .slice a A.length cap, .int .i64 x, .slice ra R.length rcap, .agg #[.int .i64 e0, .int .i64 e1]] w fun e w' => e = .returned (.bool true) ∧ Below w.heap.size w w' := by
  have HD := Lib.hid D
  have HXI := Lib.hid hx
  have HE0 := Lib.hid he0
  have HE1 := Lib.hid he1
  have HDI := Lib.hid hd
  have hb0 : Below w.heap.size w (w.alloc (.cells #[.int .i64 e0, .int .i64 e1] 71)) := (Below.refl _ _).alloc (Nat.le_refl _) _
  obtain ⟨g0, g1⟩ := hd_two w (.int .i64 e0) (.int .i64 e1) 71
  have HAL := Lib.hid (alive15_any D _ (ht.call hb0))
  have HNW := Lib.hid (fun W (hb : Below w.heap.size w W) => hd_new D W d 0 (ht.call hb) hd ⟨by decide, by decide⟩)
  have HBU := Lib.hid (fun W (hb : Below w.heap.size w W) => build15_any D W d A a cap hd (ht.call hb) (hA.call hb) hl)
  have HA := Lib.hid hA
  have HRR := Lib.hid hR
  have HT := Lib.hid ht
  have HB0 := Lib.hid hb0
  obtain ⟨x0, x1⟩ := hx
  obtain ⟨y0, y1⟩ := he0
  obtain ⟨z0, z1⟩ := he1
  obtain ⟨nr, hnr⟩ : ∃ nr : Nat, R.length = nr := ⟨_, rfl⟩
  have HNR := Lib.hid hnr
  rw [hnr] at hlr
  rw [hnr]
  clear hA hR ht D hb0 hnr hd
  go_enter Tryd.func8, Tryd.ntmps8
  go_wp2_with fail
  have HZR : Hid ((w.alloc (.cells #[.int .i64 e0, .int .i64 e1] 71)).heap.size = w.heap.size + 1) := Lib.hid (by simp)
  generalize w.alloc (.cells #[.int .i64 e0, .int .i64 e1] 71) = wc at *
  refine HAL.out.mono ?_
  rintro e w1 ⟨rfl, b1'⟩
  have b1 := HB0.out.trans (b1'.mono HB0.out.size)
  have g0 := cell_later b1' g0
  have g1 := cell_later b1' g1
  have HZ1 : Hid (w.heap.size + 1 ≤ w1.heap.size) := Lib.hid (by have := b1'.size; have := HZR.out; omega)
  clear b1' HAL
  go_wp2_with fail
  refine (HBU.out _ b1).mono ?_
  rintro e w2 (⟨B, S, L, T, M, rfl, hs, hf, hl60, hX, hbk, hS, hM, hSM, b2'⟩ | ⟨rfl, b2'⟩)
  case inr =>
    have b2 := b1.trans (b2'.mono b1.size)
    clear b2' b1
    go_wp2_with fail
    all_goals
      go_ret
      exact ⟨rfl, b2⟩
  have b2 := b1.trans (b2'.mono b1.size)
  have g0 := cell_later b2' g0
  have g1 := cell_later b2' g1
  have HMW : Hid (w.heap.size < M) := Lib.hid (by have := HZ1.out; omega)
  by_cases hr60 : 60 < nr
  · have hr61 : (60 : Int) < nr := by omega
    clear hs hf hX hbk hS hM hSM b2' b1
    go_wp2_with fail
    go_ret
    exact ⟨rfl, b2⟩
  have hr61 : ¬ (60 : Int) < nr := by omega
  have hP : (Pt.spans d L T).ok := hs
  obtain ⟨l1, l2⟩ := hdv_len hP hf (by omega)
  obtain ⟨bb, hbb⟩ := enda_ends A
  have HRW : Hid (∀ W, Below w2.heap.size w2 W → Calls Tryd.prog 31 #[.pointer (some ⟨B, 0, none⟩)] W fun e w' => ∃ v1 v2, e = .returned (.tuple #[v1, v2]) ∧ OwnP w' W.heap.size v1 (rowV (.spans d L T) true A) ∧ OwnP w' W.heap.size v2 (rowV (.spans d L T) false A) ∧ Below W.heap.size W w') := Lib.hid (fun W hb => hd_rows HD.out (hX.call HD.out hb) (by omega) (by omega))
  have HEN := Lib.hid (fun W (hb : Below w2.heap.size w2 W) => hd_ends HD.out (hX.call HD.out hb) (by omega) (by omega) (loV A) (hiV A) bb ((ende15 hs hf (by omega)).trans hbb))
  have hz2c : w2.cell? ⟨B, 5, none⟩ = some (.int .u64 (zeroV A)) := by
    obtain ⟨_, _, _, _, _, _, _, hr, _⟩ := hX
    exact hr.cells.c5
  have HZ := Lib.hid (fun W (hb : Below w2.heap.size w2 W) => hd_zero (cell_later hb hz2c))
  have HSP := Lib.hid hs
  have HF := Lib.hid hf
  have HBK := Lib.hid hbk
  have HB2 := Lib.hid b2
  have HLS := Lib.hid (load_same hs hf (show A.length ≤ 1000 by omega))
  have S1 := row_sum50 hP true hf (by omega)
  have S2 := row_sum50 hP false hf (by omega)
  have HOK1 := Lib.hid S1.ok
  have HOK2 := Lib.hid S2.ok
  have hei := ends_hd hf
  have HEI := Lib.hid hei
  have hzp := zero_pos hf
  have hza := sides_all hP hf (by omega)
  have hbd := fine_bd hf (by omega)
  have q1 := sumP_pos (ok_pos S1.ok)
  have q2 := sumP_pos (ok_pos S2.ok)
  have hzw : Word (zeroV A) := by unfold Word; omega
  have HZW := Lib.hid hzw
  have HHD : Hid (hdV (.spans d L T) A = ⟨rowV (.spans d L T) true A, rowV (.spans d L T) false A, zeroV A, loV A, hiV A⟩) := Lib.hid rfl
  have l1' : (rowV (.spans d L T) true A).length ≤ 60 := Nat.le_trans l1 hl60
  have l2' : (rowV (.spans d L T) false A).length ≤ 60 := Nat.le_trans l2 hl60
  generalize rowV (.spans d L T) true A = K1 at *
  generalize rowV (.spans d L T) false A = K2 at *
  generalize zeroV A = zz at *
  generalize loV A = lo at *
  generalize hiV A = hi at *
  obtain ⟨n1, hn1⟩ : ∃ n1 : Nat, K1.length = n1 := ⟨_, rfl⟩
  obtain ⟨n2, hn2⟩ : ∃ n2 : Nat, K2.length = n2 := ⟨_, rfl⟩
  have HN1 := Lib.hid hn1
  have HN2 := Lib.hid hn2
  have HLL := Lib.hid (And.intro l1' l2')
  clear hs hf hX hbk hS hM hSM b2' b1 hP l1 l2 hz2c S1 S2 hei hza hbd q1 q2 hbb hzw l1' l2' hn1 hn2 HBU
  go_wp2_with fail
  refine (HRW.out _ (Below.refl _ _)).mono ?_
  rintro e w3 ⟨v1, v2, rfl, ho1, ho2, b3⟩
  obtain ⟨A1, c1, rfl, hp1⟩ := ho1.pairs HOK1.out
  obtain ⟨A2, c2, rfl, hp2⟩ := ho2.pairs HOK2.out
  rw [HN1.out, HN2.out]
  have P1 := Lib.hid hp1
  have P2 := Lib.hid hp2
  have g0 := cell_later b3 g0
  have g1 := cell_later b3 g1
  clear hp1 hp2 ho1 ho2 HRW
  go_wp2_with fail
  refine (HEN.out _ b3).mono ?_
  rintro e w4 ⟨rfl, b4'⟩
  have P1 := Lib.hid (P1.out.call b4')
  have P2 := Lib.hid (P2.out.call b4')
  have g0 := cell_later b4' g0
  have g1 := cell_later b4' g1
  have b4 := b3.trans (b4'.mono b3.size)
  have hb5 : Below w4.heap.size w4 (w4.alloc (.cells #[.int .i64 d, .int .u64 0] 52)) := (Below.refl _ _).alloc (Nat.le_refl _) _
  obtain ⟨c50, c51⟩ := hd_cfg w4 d 0
  have P1 := Lib.hid (P1.out.call hb5)
  have P2 := Lib.hid (P2.out.call hb5)
  have g0 := cell_later hb5 g0
  have g1 := cell_later hb5 g1
  have b5 := b4.trans (hb5.mono b4.size)
  have HCW : Hid (w.heap.size < w4.heap.size) := Lib.hid (World.block_lt_of_cell? (a := ⟨w.heap.size, 0, none⟩) _ (by assumption))
  have HZ24 : Hid (w2.heap.size ≤ w4.heap.size) := Lib.hid b4.size
  clear b3 b4' b4 hb5 HEN
  go_wp2_with fail
  have HZ45 : Hid ((w4.alloc (.cells #[.int .i64 d, .int .u64 0] 52)).heap.size = w4.heap.size + 1) := Lib.hid (by simp)
  generalize w4.alloc (.cells #[.int .i64 d, .int .u64 0] 52) = w5 at *
  have HLD : Hid (∀ W, Below w5.heap.size w5 W → Calls Tryd.prog 32 #[.agg #[.int .i64 d, .int .u64 0], .slice A1 n1 c1, .slice A2 n2 c2, .int .u64 zz, .int .i64 lo, .int .i64 hi] W fun e w' => ∃ B2 S2, e = .returned (.tuple #[.pointer (some ⟨B2, 0, none⟩), .int .i64 0]) ∧ HdX St w' B2 S2 d L 0 (hdV (.spans d L T) A) ∧ (∀ k, S2 k → w5.heap.size ≤ k) ∧ Below W.heap.size W w') := Lib.hid fun W hb => by
    have hbw := HB2.out.trans ((b5.trans (hb.mono b5.size)).mono HB2.out.size)
    have := hd_loads HD.out W d L T 0 A1 A2 c1 c2 K1 K2 zz lo hi HSP.out (HT.out.call hbw) ⟨by decide, by decide⟩ (P1.out.call hb) (P2.out.call hb) (by have := HLL.out; omega) (by have := HLL.out; omega) HZW.out HEI.out.1 HEI.out.2
    rw [HN1.out, HN2.out] at this
    refine this.mono ?_
    rintro e w' (⟨_, B2, S2, rfl, hx2, hS2, hb2⟩ | ⟨hno, _⟩)
    · rw [HHD.out]
      exact ⟨B2, S2, rfl, hx2, fun k hk => by have := hS2 k hk; have := hb.size; omega, hb2⟩
    · rw [HLS.out] at hno; cases hno
  have HZ5 := Lib.hid (fun W (hb : Below w5.heap.size w5 W) => HZ.out W (b5.trans (hb.mono b5.size)))
  have HS0 : Hid (w5.drew.cell? ⟨w4.heap.size, 0, none⟩ = some (.int .i64 d) ∧ w5.drew.cell? ⟨w4.heap.size, 1, none⟩ = some (.int .u64 0) ∧ Below w5.heap.size w5 w5.drew) := Lib.hid ⟨c50, c51, (Below.refl _ _).drew⟩
  have HST := Lib.hid (fun (W W' : World) (h : W.cell? ⟨w4.heap.size, 0, none⟩ = some (.int .i64 d) ∧ W.cell? ⟨w4.heap.size, 1, none⟩ = some (.int .u64 0) ∧ Below w5.heap.size w5 W) (hb : Below W.heap.size W W') => (⟨cell_later hb h.1, cell_later hb h.2.1, h.2.2.trans (hb.mono h.2.2.size)⟩ : W'.cell? ⟨w4.heap.size, 0, none⟩ = some (.int .i64 d) ∧ W'.cell? ⟨w4.heap.size, 1, none⟩ = some (.int .u64 0) ∧ Below w5.heap.size w5 W'))
  have HB5 := Lib.hid b5
  clear b5 HZ
  go_region_held3 (fun w' => w'.cell? ⟨w4.heap.size, 0, none⟩ = some (.int .i64 d) ∧ w'.cell? ⟨w4.heap.size, 1, none⟩ = some (.int .u64 0) ∧ Below w5.heap.size w5 w')
    (first | exact HS0.out | exact HST.out _ _ (by assumption) hbB | exact HST.out _ _ (by assumption) hbA | assumption)
    ((first
      | (go_at_call 28; refine (HZ5.out _ (And.right (And.right (by assumption)))).mono ?_; rintro e wA ⟨rfl, hbA⟩)
      | (go_at_call 32; refine (HLD.out _ (And.right (And.right (by assumption)))).mono ?_; rintro e wB ⟨B2, S2, rfl, hx2, hS2, hbB⟩)))
  rename_i hHeld
  obtain ⟨c60, c61, b6⟩ := hHeld
  have bw6 := HB2.out.trans ((HB5.out.trans (b6.mono HB5.out.size)).mono HB2.out.size)
  have b26 := HB5.out.trans (b6.mono HB5.out.size)
  have hbk6 : BinBlk wB M d a A.length cap := (b26.block M (lt_of_block HBK.out)).trans HBK.out
  have HSA := Lib.hid (same15_any HD.out wB B2 M S2 d L T 0 A a cap HSP.out hx2 hbk6 (HA.out.call bw6) HF.out (by omega))
  have HX2 := Lib.hid hx2
  have HS2 := Lib.hid hS2
  have g0 := cell_later (HB5.out.trans (b6.mono HB5.out.size)) (by assumption : w2.cell? ⟨w.heap.size, 0, none⟩ = some (.int .i64 e0))
  have g1 := cell_later (HB5.out.trans (b6.mono HB5.out.size)) (by assumption : w2.cell? ⟨w.heap.size, 1, none⟩ = some (.int .i64 e1))
  have HBK6 := Lib.hid hbk6
  have HBW6 := Lib.hid bw6
  have HNC : Hid (¬ S2 w.heap.size ∧ ¬ S2 w4.heap.size ∧ ¬ S2 M) := Lib.hid ⟨fun h => by have := hS2 _ h; have := HZ45.out; have := HCW.out; omega, fun h => by have := hS2 _ h; have := HZ45.out; omega, fun h => by have := hS2 _ h; have := lt_of_block HBK.out; have := HB5.out.size; omega⟩
  have HMC : Hid (M < w4.heap.size) := Lib.hid (by have := lt_of_block HBK.out; have := HZ24.out; omega)
  clear hx2 hS2 hbB bw6 b26 hbk6 b6 P1 P2 HLD HZ5 HS0 HST
  go_wp2_with fail
  refine HSA.out.mono ?_
  rintro e w7 ⟨rfl, b7⟩
  have g0 := cell_later b7 g0
  have g1 := cell_later b7 g1
  have c70 := cell_later b7 c60
  have c71 := cell_later b7 c61
  have HPU := Lib.hid (hd_putv HD.out HSP.out (HX2.out.call HD.out b7) HF.out (by omega) x 3 HXI.out (by decide) (by decide) (takb_zero x))
  have HBK7 := Lib.hid (show BinBlk w7 M d a A.length cap from (b7.block M (lt_of_block HBK6.out)).trans HBK6.out)
  have HBW7 := Lib.hid (HBW6.out.trans (b7.mono HBW6.out.size))
  have HLT7 := Lib.hid ((HX2.out.call HD.out b7).lt HD.out)
  clear c60 c61 HSA b7
  go_wp2_with fail
  refine HPU.out.mono ?_
  rintro e w8 ⟨rfl, S8, hx8, hk8, hS8⟩
  have hold : ∀ (u : Option Addr) (K : List PairV), Pairs w u K → Pairs w8 u K := fun u K h => hd_pairs (h.call HBW7.out) hk8 (fun b off e hne => fun hb => by
    have h1 := HS2.out b hb
    cases hK : K with
    | nil => exact hne hK
    | cons p q =>
      obtain ⟨b', off', e', hb', _⟩ := h.at_ 0 p (by rw [hK]; rfl)
      rw [e] at e'
      obtain ⟨rfl, _, _⟩ := Addr.mk.inj (Option.some.inj e')
      have := HZ45.out; have := HCW.out; omega)
  have HOLD := Lib.hid hold
  have g0 : w8.cell? ⟨w.heap.size, 0, none⟩ = some (.int .i64 e0) := hk8.cell HNC.out.1 g0
  have g1 : w8.cell? ⟨w.heap.size, 1, none⟩ = some (.int .i64 e1) := hk8.cell HNC.out.1 g1
  have c80 : w8.cell? ⟨w4.heap.size, 0, none⟩ = some (.int .i64 d) := hk8.cell HNC.out.2.1 c70
  have c81 : w8.cell? ⟨w4.heap.size, 1, none⟩ = some (.int .u64 0) := hk8.cell HNC.out.2.1 c71
  have hbk8 : BinBlk w8 M d a A.length cap := (hk8.block M (lt_of_block HBK7.out) HNC.out.2.2).trans HBK7.out
  have hbw8 : Below w.heap.size w w8 := Keeps.below HBW7.out hk8 HBW7.out.size (fun i h => by have := HS2.out i h; have := HZ45.out; have := HCW.out; omega)
  have HMS8 : Hid (¬ S8 M) := Lib.hid fun h => by
    rcases hS8 M h with h | h
    · exact HNC.out.2.2 h
    · have := lt_of_block HBK7.out; omega
  have HBK8 := Lib.hid hbk8
  have HBW8 := Lib.hid hbw8
  have HX8 := Lib.hid hx8
  have hO6 := World.ownsRow_made (base := w8.heap.size) (e := 67) (size := 2) w8 #[] 0 (by simp) (by decide) rfl
  have HO6 : Hid (OwnV (w8.alloc (.cells #[] 67)) w8.heap.size (.slice (some ⟨w8.heap.size, 0, none⟩) 0 0) []) := Lib.hid hO6
  have HB9 : Hid (Below w8.heap.size w8 (w8.alloc (.cells #[] 67))) := Lib.hid ((Below.refl _ _).alloc (Nat.le_refl _) _)
  have HP9 : Hid (Pairs (w8.alloc (.cells #[] 67)) a A) := Lib.hid ((hold a A HA.out).call HB9.out)
  clear hx8 hk8 hS8 hold hbk8 hbw8 hO6 HPU c70 c71
  go_wp2_with (at_builtin; refine wpList_append_vals rfl (.tmp 81) (.tmp 82) rfl w8.heap.size _ [] a cap A rfl HO6.out rfl HP9.out ?c1 ?c2 ?_)
  case c1 => simp; omega
  case c2 => exact HB9.out.size
  intro v10 w10 hown10' hg10
  have hown10 : OwnV w10 w8.heap.size v10 A := hown10'
  clear hown10'
  have hb10 : Below w8.heap.size w8 w10 := HB9.out.grown hg10 HB9.out.size (fun k hk => by cases hk; exact Nat.le_refl _)
  obtain ⟨nA, hnA⟩ : ∃ nA : Nat, A.length = nA := ⟨_, rfl⟩
  have hbn : Below w10.heap.size w10 (w10.alloc (.cells #[.int .i64 x, .int .u64 3] 67)) := (Below.refl _ _).alloc (Nat.le_refl _) _
  obtain ⟨h0, h1⟩ := hd_two w10 (.int .i64 x) (.int .u64 3) 67
  have HH01 := Lib.hid (And.intro h0 h1)
  have HO10 := Lib.hid (hown10.call hbn)
  have HB11 := Lib.hid (hb10.trans (hbn.mono hb10.size))
  have HNA := Lib.hid hnA
  have HL10 := Lib.hid hown10.lt
  clear hown10 hg10 hb10 hbn h0 h1 HO6 HP9 HB9
  go_wp2_with (at_builtin; refine wpList_append_val15 rfl (.tmp 83) (.tmp 86) rfl w8.heap.size v10 A nA HNA.out w10.heap.size (x, 3) rfl HO10.out rfl HH01.out.1 HH01.out.2 ?c1 ?c2 ?_)
  case c1 => omega
  case c2 => exact HB11.out.size
  intro g' cap' w12 hown12 hg12 hlie
  have hb12 : Below w8.heap.size w8 w12 := HB11.out.grown hg12 HB11.out.size (fun k hk => (HL10.out k hk).1)
  have hokk : ∀ p, p ∈ A ++ [(x, 3)] → okP p := fun p hp => by
    rcases List.mem_append.1 hp with h | h
    · exact HA.out.ok p h
    · have : p = (x, 3) := by simpa using h
      subst this; exact ⟨HXI.out, show (0 : Int) ≤ 3 by decide, show (3 : Int) < 18446744073709551616 by decide⟩
  have hp12 := OwnV.row hown12 hokk
  have hgl := (hown12.lt g' rfl)
  have hbk12 : BinBlk w12 M d a nA cap := by
    have := (hb12.block M (lt_of_block HBK8.out)).trans HBK8.out
    rwa [hnA] at this
  have m5 : w12.cell? ⟨M, 5, none⟩ = some (.slice a nA cap) := by
    have hb := hbk12; unfold BinBlk at hb
    rw [Joins.cell_of_block hb]; rfl
  have f5 : w12.frozen? ⟨M, 5, none⟩ = false := Joins.unfrozen_of_block (show w12.heap[M]? = some (.cells _ _ (0, 0)) from hbk12) 5
  have hM8 := lt_of_block HBK8.out
  have hMg : g' ≠ M := by omega
  have hbk13 : BinBlk (w12.setCell ⟨M, 5, none⟩ (.slice (some ⟨g', 0, none⟩) (nA + 1) cap')) M d (some ⟨g', 0, none⟩) (nA + 1) cap' := by
    have hb : w12.heap[M]? = some (.cells #[.slice none 0 0, .slice none 0 0, .int .i64 d, .int .i64 0, .int .i64 4096, .slice a nA cap] 59 (0, 0)) := hbk12
    show _ = _
    rw [Joins.block_setCell hb]; rfl
  have hset : ∀ k, k ≠ M → (w12.setCell ⟨M, 5, none⟩ (.slice (some ⟨g', 0, none⟩) (nA + 1) cap')).heap[k]? = w12.heap[k]? := fun k hk => Below.heap_setCell w12 _ _ k hk
  have hkM : Keeps (fun k => k = M) w12 (w12.setCell ⟨M, 5, none⟩ (.slice (some ⟨g', 0, none⟩) (nA + 1) cap')) := keeps_put (S := fun k => k = M) rfl
  have hk13 : Keeps (fun k => k = M) w8 (w12.setCell ⟨M, 5, none⟩ (.slice (some ⟨g', 0, none⟩) (nA + 1) cap')) := keeps_then (Keeps.of_below hb12) hkM (fun k _ h => h)
  have hp13 : Pairs (w12.setCell ⟨M, 5, none⟩ (.slice (some ⟨g', 0, none⟩) (nA + 1) cap')) (some ⟨g', 0, none⟩) (A ++ [(x, 3)]) := hd_pairs hp12 hkM (fun b off e _ => fun hb => by
    obtain ⟨rfl, _, _⟩ := Addr.mk.inj (Option.some.inj e)
    exact hMg hb)
  have hx13 : HdX St (w12.setCell ⟨M, 5, none⟩ (.slice (some ⟨g', 0, none⟩) (nA + 1) cap')) B2 S8 d L 0 (hdV (.spans d L T) (A ++ [(x, 3)])) := HX8.out.past HD.out hk13 (fun k h e => HMS8.out (e ▸ h))
  have hbw13 : Below w.heap.size w (w12.setCell ⟨M, 5, none⟩ (.slice (some ⟨g', 0, none⟩) (nA + 1) cap')) := Keeps.below HBW8.out hk13 HBW8.out.size (fun i h => by have := HMW.out; omega)
  have hr13 : Pairs (w12.setCell ⟨M, 5, none⟩ (.slice (some ⟨g', 0, none⟩) (nA + 1) cap')) ra R := hd_pairs (HOLD.out ra R HRR.out) hk13 (fun b off e hne => fun hb => by
    have hb : b = M := hb
    cases hK : R with
    | nil => exact hne hK
    | cons p q =>
      obtain ⟨b', off', e', hb', _⟩ := HRR.out.at_ 0 p (by rw [hK]; rfl)
      rw [e] at e'
      obtain ⟨rfl, _, _⟩ := Addr.mk.inj (Option.some.inj e')
      have := HMW.out; omega)
  have g0 : (w12.setCell ⟨M, 5, none⟩ (.slice (some ⟨g', 0, none⟩) (nA + 1) cap')).cell? ⟨w.heap.size, 0, none⟩ = some (.int .i64 e0) := hk13.cell (fun h => by have := HMW.out; omega) g0
  have g1 : (w12.setCell ⟨M, 5, none⟩ (.slice (some ⟨g', 0, none⟩) (nA + 1) cap')).cell? ⟨w.heap.size, 1, none⟩ = some (.int .i64 e1) := hk13.cell (fun h => by have := HMW.out; omega) g1
  have c0 : (w12.setCell ⟨M, 5, none⟩ (.slice (some ⟨g', 0, none⟩) (nA + 1) cap')).cell? ⟨w4.heap.size, 0, none⟩ = some (.int .i64 d) := hk13.cell (fun h => by have := HMC.out; omega) c80
  have c1 : (w12.setCell ⟨M, 5, none⟩ (.slice (some ⟨g', 0, none⟩) (nA + 1) cap')).cell? ⟨w4.heap.size, 1, none⟩ = some (.int .u64 0) := hk13.cell (fun h => by have := HMC.out; omega) c81
  have HX13 := Lib.hid hx13
  have HP13 := Lib.hid hp13
  have HR13 := Lib.hid hr13
  have HBW13 := Lib.hid hbw13
  have HBK13 := Lib.hid hbk13
  have HF2 : Hid (FineV (A ++ [(x, 3)])) := Lib.hid (fine_app HF.out fun v hv => by
    have : v = (x, 3) := by simpa using hv
    subst this; exact ⟨HXI.out, show (0 : Int) < 3 by decide, show (3 : Int) ≤ 1125899906842624 by decide⟩)
  obtain ⟨w13, hw13⟩ : ∃ w13, w12.setCell ⟨M, 5, none⟩ (.slice (some ⟨g', 0, none⟩) (nA + 1) cap') = w13 := ⟨_, rfl⟩
  rw [hw13] at HX13 HP13 HR13 HBW13 HBK13 g0 g1 c0 c1
  clear hown12 hg12 hlie hb12 hokk hp12 hgl hbk12 hM8 hMg hbk13 hset hkM hk13 hp13 hx13 hbw13 hr13 HO10 HB11 HL10 HH01 c80 c81
  go_upto_region 14 with fail
  clear hw13 m5 f5
  have HSB := Lib.hid (same15_any HD.out w13 B2 M S8 d L T 0 (A ++ [(x, 3)]) (some ⟨g', 0, none⟩) cap' HSP.out HX13.out (by have := HBK13.out; rw [List.length_append, HNA.out]; exact this) HP13.out HF2.out (by rw [List.length_append]; simp only [List.length_singleton]; omega))
  go_wp2_with fail
  refine HSB.out.mono ?_
  rintro e w14 ⟨rfl, b14'⟩
  have bw14 := HBW13.out.trans (b14'.mono HBW13.out.size)
  have g0 := cell_later b14' g0
  have g1 := cell_later b14' g1
  have c0 := cell_later b14' c0
  have c1 := cell_later b14' c1
  have HLR := Lib.hid (hd_loads HD.out w14 d L T 0 ra none rcap 0 R [] 1 e0 e1 HSP.out (HT.out.call bw14) ⟨by decide, by decide⟩ (HRR.out.call bw14) (Pairs.nil _) (by rw [HNR.out]; omega) (by simp) ⟨by decide, by decide⟩ HE0.out HE1.out)
  rw [HNR.out] at HLR
  clear HSB HX13 HP13 HBK13 HF2 HX8 HOLD b14'
  have HBW14 := Lib.hid bw14
  clear bw14
  go_wp2_with fail
  refine HLR.out.mono ?_
  intro e w15 hLH
  obtain ⟨p, c, rfl, hLP, b15'⟩ : ∃ p c, e = .returned (.tuple #[p, .int .i64 c]) ∧ LoadP St w15 d L R e0 e1 p c ∧ Below w14.heap.size w14 w15 := by
    rcases hLH with ⟨hy, B3, S3, rfl, hx3, hS3, hb⟩ | ⟨hn, rfl, hb⟩
    · exact ⟨_, 0, rfl, Or.inl ⟨hy, rfl, B3, S3, rfl, hx3⟩, hb⟩
    · exact ⟨_, 1, rfl, Or.inr ⟨hn, rfl, rfl⟩, hb⟩
  have bw15 := HBW14.out.trans (b15'.mono HBW14.out.size)
  have g0 := cell_later b15' g0
  have g1 := cell_later b15' g1
  have c0 := cell_later b15' c0
  have c1 := cell_later b15' c1
  obtain ⟨gb, hgb⟩ : ∃ g, goodB R = g := ⟨_, rfl⟩
  have HGD := Lib.hid (rgood_row w15 ra rcap R gb hgb (HRR.out.call bw15) (by rw [HNR.out]; omega))
  rw [HNR.out] at HGD
  have HW0 : Hid (wantI (lastS L) R e0 e1 0 = (gb && decide (e0 ≤ e1))) := Lib.hid (by rw [wanti_zero, hgb])
  have HLP := Lib.hid hLP
  have HBW15 := Lib.hid bw15
  have HF1 : Hid (FineV [((-9223372036854775808 : Int), (1 : Int))]) := Lib.hid fun v hv => by
    have : v = (-9223372036854775808, 1) := by simpa using hv
    subst this; exact ⟨⟨by decide, by decide⟩, by decide, by decide⟩
  clear hLP hLH b15' bw15 hgb HLR
  cases gb
  all_goals
    go_wp2_with fail
    refine HGD.out.mono ?_
    rintro e w16 ⟨rfl, b16⟩
    have g0 := cell_later b16 g0
    have g1 := cell_later b16 g1
    have c0 := cell_later b16 c0
    have c1 := cell_later b16 c1
    have HB16 := Lib.hid b16
    have HNE := Lib.hid (HNW.out w16 (HBW15.out.trans (b16.mono HBW15.out.size)))
    clear b16 HGD
    go_wp2_with fail
    refine HNE.out.mono ?_
    intro e w17 hNW
    obtain ⟨B5, S5, rfl, hx5, hS5, b17'⟩ : ∃ B5 S5, e = .returned (.tuple #[.pointer (some ⟨B5, 0, none⟩), .int .i64 0]) ∧ HdX St w17 B5 S5 d L 0 (hdV (.spans d L T) []) ∧ (∀ k, S5 k → w16.heap.size ≤ k) ∧ Below w16.heap.size w16 w17 := by
      rcases hNW with ⟨_, _, _, L5, T5, B5, S5, hs5, rfl, hx5, hS5, b⟩ | ⟨hno, _, _⟩
      · have e5 : L5 = L := by have := HSP.out; unfold SpanP at this hs5; omega
        exact ⟨B5, S5, rfl, by rw [hdv_nil]; exact e5 ▸ hx5, hS5, b⟩
      · exact absurd (by have := HSP.out; unfold SpanP at this; omega) hno
    have HB17 := Lib.hid (HB16.out.trans (b17'.mono HB16.out.size))
    have HS5 : Hid (∀ k, S5 k → w15.heap.size ≤ k) := Lib.hid fun k h => by have := hS5 k h; have := HB16.out.size; omega
    have HPU := Lib.hid (hd_putv HD.out HSP.out hx5 (fun v hv => by cases hv) (by simp) (-9223372036854775808) 1 ⟨by decide, by decide⟩ (by decide) (by decide) (takb_zero _))
    clear hNW hx5 hS5 b17' HNE g0 g1 c0 c1
    go_wp2_with fail
    refine HPU.out.mono ?_
    rintro e w18 ⟨rfl, S6, hx6, hk6, hS6⟩
    have b18 := Keeps.below HB17.out hk6 HB17.out.size (fun i h => HS5.out i h)
    rw [List.nil_append] at hx6
    have hl6 := hdv_len (show (Pt.spans d L T).ok from HSP.out) HF1.out (by simp)
    have HRO := Lib.hid (hd_rows HD.out hx6 (Nat.le_trans hl6.1 (by simp)) (Nat.le_trans hl6.2 (by simp)))
    have HB18 := Lib.hid b18
    clear hx6 hk6 hS6 b18 hl6 HPU
    go_wp2_with fail
    refine HRO.out.mono ?_
    rintro e w19 ⟨v1, v2, rfl, ho1, ho2, b19'⟩
    have ho1 : OwnP w19 w18.heap.size v1 [(lastS L, 1)] := by rw [← row_top HSP.out]; exact ho1
    have hlb := lasts_bd L (spanp_log HSP.out).2
    obtain ⟨A5, c5, rfl, hp5⟩ := ho1.pairs (fun p hp => by
      have : p = (lastS L, 1) := by simpa using hp
      subst this; exact ⟨⟨show _ ≤ lastS L by omega, show lastS L ≤ _ by omega⟩, show (0 : Int) ≤ 1 by decide, show (1 : Int) < 18446744073709551616 by decide⟩)
    obtain ⟨gt, ot, rfl, hbt, d0, d1⟩ := hp5.at_ 0 (lastS L, 1) rfl
    simp only [Nat.zero_mul, Nat.add_zero] at d0
    rw [show [((lastS L : Int), (1 : Int))].length = 1 from rfl]
    obtain ⟨ls, hls⟩ : ∃ ls, lastS L = ls := ⟨_, rfl⟩
    rw [hls] at d0 HW0
    have HLSE := Lib.hid hls
    have HB19 := Lib.hid (HB18.out.trans (b19'.mono HB18.out.size))
    have HDL := Lib.hid (fun W (h : Below w19.heap.size w19 W) => cell_later h d0)
    clear ho1 ho2 hp5 hbt d1 b19' hls hlb HRO d0
    go_wp2_with fail
    go_loopg [22, 23, 28] nr (fun g a b j wr => ∃ (k : Nat) (s : Int) (W : Bool), k ≤ nr ∧ g = nr - k ∧ a = .bool W ∧ b = .int .u64 s ∧ j = .int .i64 k ∧ wantI ls R e0 e1 k = W ∧ s = 1 + sumP (R.take k) ∧ 0 ≤ s ∧ s < 18446744073709551616 ∧ Below w19.heap.size w19 wr)
    case atStart => exact ⟨0, 1, _, Nat.zero_le _, rfl, rfl, rfl, rfl, HW0.out, by rw [List.take_zero, sumP_nil]; rfl, by decide, by decide, Below.refl _ _⟩
    case round =>
      obtain ⟨k, s, W, hk, rfl, rfl, rfl, rfl, hW, hs, s0, s1, hb2⟩ := hrel
      have HW := Lib.hid hW
      have HS := Lib.hid hs
      have HBR := Lib.hid hb2
      have HBZ := Lib.hid (HB19.out.trans (hb2.mono HB19.out.size))
      clear hW hs
      cases W with
      | true =>
        by_cases hlt : k < nr
        · have kk : (k : Int) < (nr : Int) := by omega
          have hkl : k < R.length := by have := HNR.out; omega
          have hxk : R[k]? = some R[k] := List.getElem?_eq_getElem hkl
          generalize hit : R[k] = q at *
          obtain ⟨xi, xc⟩ := q
          obtain ⟨w1, w2', w3', w4'⟩ := wanti_facts.1 HW.out
          have hgd := w1.1 _ (List.mem_of_getElem? hxk)
          have hstep := wanti_step HW.out hxk
          have hPw := HRR.out.call (HBW15.out.trans (HBZ.out.mono HBW15.out.size))
          obtain ⟨gg, off, rfl, hbl, c0, c1⟩ := hPw.at_ k _ hxk
          have d0 := HDL.out _ hb2
          simp only at c0 c1 hstep hgd
          have hok := (HRR.out.ok _ (List.mem_of_getElem? hxk)).1
          obtain ⟨o1, o2⟩ := hok
          simp only at o1 o2
          have hs63 : s < 9223372036854775808 := by rw [HS.out]; omega
          have hsum : IntKind.u64.wrap (s + xc) = s + xc := by rw [IntKind.wrap_u64]; omega
          have hss : s + xc = 1 + sumP (R.take (k + 1)) := by rw [sum_step hxk, HS.out]; show _ = 1 + (sumP (R.take k) + xc); omega
          have HSS := Lib.hid hss
          have hb63 : s + xc < 18446744073709551616 := by omega
          have hb0 : 0 ≤ s + xc := by omega
          rw [← HS.out] at hstep
          have HST2 := Lib.hid hstep
          clear hxk hit w1 w2' w3' w4' hstep hPw hss hkl hgd hb2
          by_cases ha : s + xc < 9223372036854775808
          · by_cases hb : 1 ≤ xi
            · have HF : Hid (wantI ls R e0 e1 (k + 1) = decide (xi ≤ ls)) := Lib.hid (by rw [HST2.out, decide_eq_true ha, decide_eq_true hb, Bool.true_and, Bool.true_and])
              clear HST2
              go_wp2_with fail
              go_quiet (fail)
              go_wp2_with fail
              go_roundg (nr - (k + 1))
              case measure => omega
              case rel => exact ⟨k + 1, s + xc, _, hlt, rfl, rfl, rfl, by go_num, HF.out, HSS.out, hb0, hb63, below_drewN HBR.out _⟩
            · have hb2 : decide (1 ≤ xi) = false := decide_eq_false hb
              have HF : Hid (wantI ls R e0 e1 (k + 1) = false) := Lib.hid (by rw [HST2.out, hb2, Bool.false_and, Bool.and_false])
              clear HST2
              go_wp2_with fail
              go_quiet (fail)
              go_wp2_with fail
              go_roundg (nr - (k + 1))
              case measure => omega
              case rel => exact ⟨k + 1, s + xc, _, hlt, rfl, rfl, rfl, by go_num, HF.out, HSS.out, hb0, hb63, below_drewN HBR.out _⟩
          · have ha2 : decide (s + xc < 9223372036854775808) = false := decide_eq_false ha
            have HF : Hid (wantI ls R e0 e1 (k + 1) = false) := Lib.hid (by rw [HST2.out, ha2, Bool.false_and])
            clear HST2
            go_wp2_with fail
            go_quiet (fail)
            go_wp2_with fail
            go_roundg (nr - (k + 1))
            case measure => omega
            case rel => exact ⟨k + 1, s + xc, _, hlt, rfl, rfl, rfl, by go_num, HF.out, HSS.out, hb0, hb63, below_drewN HBR.out _⟩
        · obtain rfl : k = nr := by omega
          have kk : ¬ (k : Int) < (k : Int) := by omega
          have hyes : hdLoadB L 0 R [] 1 e0 e1 = true := wanti_end (sumP_pos (ok_pos HRR.out.ok)) HNR.out (by rw [HLSE.out]; exact HW.out)
          have hLP := HLP.out
          unfold LoadP at hLP
          rw [hyes] at hLP
          obtain ⟨_, rfl, B3, S3, rfl, hx3⟩ : true = true ∧ c = 0 ∧ ∃ B S, p = .pointer (some ⟨B, 0, none⟩) ∧ HdX St w15 B S d L 0 ⟨R, [], 1, e0, e1⟩ := by
            rcases hLP with h | h
            · exact h
            · cases h.1
          have HTO := Lib.hid (hd_total HD.out (hx3.call HD.out HBZ.out) (show R.length ≤ 900 by rw [HNR.out]; omega) (by simp) s (by rw [HS.out, List.take_of_length_le (by rw [HNR.out]; exact Nat.le_refl k)]; show sumP R + 1 + sumP [] = 1 + sumP R; rw [sumP_nil]; omega))
          have HRET := Lib.hid (HBW15.out.trans (HBZ.out.mono HBW15.out.size))
          clear hLP hx3 hb2 hyes
          go_wp2_with fail
          refine HTO.out.mono ?_
          rintro e w20 ⟨rfl, b20⟩
          have b21 := HRET.out.trans (b20.mono HRET.out.size)
          go_wp2_with fail
          go_ret
          exact ⟨rfl, b21⟩
      | false =>
        have hno : hdLoadB L 0 R [] 1 e0 e1 = false := wanti_no (ok_pos HRR.out.ok) (by rw [HLSE.out]; exact HW.out)
        have hLP := HLP.out
        unfold LoadP at hLP
        rw [hno] at hLP
        obtain ⟨_, rfl, rfl⟩ : false = false ∧ c = 1 ∧ p = .pointer none := by
          rcases hLP with h | h
          · cases h.1
          · exact h
        have b21 := HBW15.out.trans (HBZ.out.mono HBW15.out.size)
        clear hLP hb2 hno
        by_cases kk : (k : Int) < (nr : Int)
        · go_wp2_with fail
          go_ret
          exact ⟨rfl, b21⟩
        · go_wp2_with fail
          go_ret
          exact ⟨rfl, b21⟩
end Go.Proofs.YtojincgbnjkegaaDoor
