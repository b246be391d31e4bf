/-
  The law HdrErrors, walked.
-/
import Derived.Test.YtojincgbnjkegaaDoorK4
import Derived.Deep.RegionHeld3
namespace Go.Proofs.YtojincgbnjkegaaDoor
set_option linter.unusedVariables false
set_option linter.unusedSimpArgs false
open Go.RowKit

theorem cfg15_neq (a b a' b' : Int) (w : World) : (binOp .neq 52 (.agg #[.int .i64 a, .int .u64 b]) (.agg #[.int .i64 a', .int .u64 b'])).run Tryd.prog w = .ok (.bool (!(a == a' && b == b'))) w := by
  by_cases h1 : a = a'
  · subst h1
    by_cases h2 : b = b'
    · subst h2; simp [go_sem]
    · have : (b == b') = false := by simp [h2]
      simp [go_sem, this]
  · have : (a == a') = false := by simp [h1]
    simp [go_sem, this]

/-- The values that are let. -/
def inV (lim : Int) (A : List PairV) : List PairV := A.filter fun v => takB lim v.1
theorem in_snoc (lim : Int) {A : List PairV} {k : Nat} {p : PairV} (h : A[k]? = some p) : inV lim (A.take (k + 1)) = if takB lim p.1 = true then inV lim (A.take k) ++ [p] else inV lim (A.take k) := by
  unfold inV
  rw [take_snocP h, List.filter_append, List.filter_cons]
  split <;> simp
theorem in_fine {lim : Int} {A : List PairV} (h : FineV A) : FineV (inV lim A) := fun v hv => h v (List.mem_filter.1 hv).1
theorem in_len (lim : Int) (A : List PairV) : (inV lim A).length ≤ A.length := List.length_filter_le _ _
theorem in_all {lim : Int} {A : List PairV} (h : (inV lim A).length = A.length) : inV lim A = A ∧ ∀ v, v ∈ A → takB lim v.1 = true := by
  have := List.length_filter_eq_length_iff.1 h
  exact ⟨List.filter_eq_self.2 this, this⟩
theorem in_some {lim : Int} {A : List PairV} (hf : FineV A) (hl : 0 ≤ lim) (h : (inV lim A).length < A.length) : A ≠ [] ∧ (takB lim (loV A) = false ∨ takB lim (hiV A) = false) := by
  have hne : A ≠ [] := by rintro rfl; simp [inV] at h
  refine ⟨hne, Classical.byContradiction fun hc => ?_⟩
  have h1 : takB lim (loV A) = true := by cases e : takB lim (loV A) with | true => rfl | false => exact absurd (Or.inl e) hc
  have h2 : takB lim (hiV A) = true := by cases e : takB lim (hiV A) with | true => rfl | false => exact absurd (Or.inr e) hc
  have hall : ∀ v, v ∈ A → takB lim v.1 = true := fun v hv => by
    have a := (lov_facts hne).2 v hv
    have b := (hiv_facts hne).2 v hv
    unfold takB at *
    rw [Bool.or_eq_true] at *
    rcases h1 with h1 | h1
    · exact Or.inl h1
    rcases h2 with h2 | h2
    · exact Or.inl h2
    right
    have h1 := of_decide_eq_true h1
    have h2 := of_decide_eq_true h2
    apply decide_eq_true
    unfold mag at *
    split <;> split at h1 <;> split at h2 <;> omega
  have : inV lim A = A := List.filter_eq_self.2 hall
  rw [this] at h
  omega
theorem tak_ends {lim : Int} {A : List PairV} (hne : A ≠ []) (h : ∀ v, v ∈ A → takB lim v.1 = true) : takB lim (loV A) = true ∧ takB lim (hiV A) = true := by
  obtain ⟨v, hv, e⟩ := (lov_facts hne).1
  obtain ⟨u, hu, e2⟩ := (hiv_facts hne).1
  exact ⟨e ▸ h v hv, e2 ▸ h u hu⟩

theorem keeps_own {S : Nat → Prop} {w w1 w2 : World} {r : Option Nat} (h : Keeps S w w1) (g : w1.grownBy w2 r) (hr : ∀ k, r = some k → w.heap.size ≤ k) : Keeps S w w2 :=
  ⟨g.os.trans h.os, g.tape.trans h.tape, g.output.trans h.output, Nat.le_trans h.size g.size, fun k hk hn => (g.block k (Nat.lt_of_lt_of_le hk h.size) (fun e => by have := hr k e.symm; omega)).trans (h.block k hk hn)⟩
/-- What the loop carries. -/
def ErrI (St : World → Nat → (Nat → Prop) → Int → List PairV → Prop) (w5 : World) (B : Nat) (S1 : Nat → Prop) (d : Int) (L : Nat) (T lim : Int) (A : List PairV) (k : Nat) (v : Value) (Sk : Nat → Prop) (wr : World) : Prop :=
  OwnV wr w5.heap.size v (inV lim (A.take k)) ∧ HdX St wr B Sk d L lim (hdV (.spans d L T) (inV lim (A.take k))) ∧ (∀ i, Sk i → S1 i ∨ w5.heap.size ≤ i) ∧ (∀ g, v.ownBlock = some g → ¬ Sk g) ∧ Keeps S1 w5 wr

set_option maxRecDepth 100000 in
set_option maxHeartbeats 8000000 in
theorem hdr_errors_walk {St : World → Nat → (Nat → Prop) → Int → List PairV → Prop} (D : StripDoes St) (N : StripNil) (cd cl : Int) (a : Option Addr) (cap : Nat) (A : List PairV) (x : Int) (hd : I64 cd) (wl : Word cl) (hx : I64 x) (w : World) (hA : Pairs w a A) (hl : A.length ≤ 140737488351232) (ht : Tens w) :
    Calls Tryd.prog 7 #[.agg #[.int .i64 cd, .int .u64 cl], .slice a A.length cap, .int .i64 x] w fun e w' => e = .returned (.bool true) ∧ Below w.heap.size w w' := by
  have HD := Lib.hid D
  have HN := Lib.hid N
  have hb0 : Below w.heap.size w (w.alloc (.cells #[.int .i64 cd, .int .u64 cl] 52)) := (Below.refl _ _).alloc (Nat.le_refl _) _
  obtain ⟨p0, p1⟩ := hd_cfg w cd cl
  have HAL := Lib.hid (alive15_any D _ (ht.call hb0))
  have HNW := Lib.hid (fun W (hb : Below w.heap.size w W) => hd_new D W cd cl (ht.call hb) hd wl)
  have HNW2 := Lib.hid (fun W d (hd : I64 d) (hb : Below w.heap.size w W) => hd_new D W d 0 (ht.call hb) hd ⟨by decide, by decide⟩)
  have HBU := Lib.hid (fun W (hb : Below w.heap.size w W) => build15_any D W cd A a cap hd (ht.call hb) (hA.call hb) hl)
  have HA := Lib.hid hA
  have HB0 := Lib.hid hb0
  have HLX := Lib.hid (fun W => hd_like_nil W x hx)
  have q00 := fun W => cfg15_neq 0 0 0 0 W
  have n00 : (!((0 : Int) == 0 && (0 : Int) == 0)) = false := by decide
  rw [n00] at q00
  have exx : (x != x) = false := by simp
  obtain ⟨d0, d1⟩ := hd
  have HWL := Lib.hid wl
  obtain ⟨l0, l1⟩ := wl
  obtain ⟨x0, x1⟩ := hx
  clear hA ht D N hb0 n00
  go_enter Tryd.func7, Tryd.ntmps7
  go_wp2_with fail
  have HZR : Hid ((w.alloc (.cells #[.int .i64 cd, .int .u64 cl] 52)).heap.size = w.heap.size + 1) := Lib.hid (by simp)
  generalize w.alloc (.cells #[.int .i64 cd, .int .u64 cl] 52) = wc at *
  refine HAL.out.mono ?_
  rintro e w1 ⟨rfl, b1'⟩
  have b1 := HB0.out.trans (b1'.mono HB0.out.size)
  have p0 := cell_later b1' p0
  have p1 := cell_later b1' p1
  have HZ1 : Hid (w.heap.size + 1 ≤ w1.heap.size) := Lib.hid (by have := b1'.size; have := HZR.out; omega)
  clear b1' HAL
  go_wp2_with fail
  refine (hd_ends_nil HN.out _).mono ?_
  rintro e w2 ⟨rfl, b2'⟩
  have b2 := b1.trans (b2'.mono b1.size)
  have p0 := cell_later b2' p0
  have p1 := cell_later b2' p1
  have HZ2 : Hid (w.heap.size + 1 ≤ w2.heap.size) := Lib.hid (by have := b2'.size; have := HZ1.out; omega)
  clear b2' b1
  go_wp2_with fail
  refine (hd_quan_nil _ 0 1).mono ?_
  rintro e w3 ⟨rfl, b3'⟩
  have b3 := b2.trans (b3'.mono b2.size)
  have p0 := cell_later b3' p0
  have p1 := cell_later b3' p1
  have HZ3 : Hid (w.heap.size + 1 ≤ w3.heap.size) := Lib.hid (by have := b3'.size; have := HZ2.out; omega)
  clear b3' b2
  go_wp2_with fail
  refine (hd_rank_nil HN.out _ 1).mono ?_
  rintro e w4 ⟨rfl, b4'⟩
  have b4 := b3.trans (b4'.mono b3.size)
  have p0 := cell_later b4' p0
  have p1 := cell_later b4' p1
  have HZ4 : Hid (w.heap.size + 1 ≤ w4.heap.size) := Lib.hid (by have := b4'.size; have := HZ3.out; omega)
  clear b4' b3
  go_wp2_with fail
  refine (HLX.out _).mono ?_
  rintro e w5 ⟨rfl, b5'⟩
  have b5 := b4.trans (b5'.mono b4.size)
  have p0 := cell_later b5' p0
  have p1 := cell_later b5' p1
  have HZ5 : Hid (w.heap.size + 1 ≤ w5.heap.size) := Lib.hid (by have := b5'.size; have := HZ4.out; omega)
  clear b5' b4
  go_wp2_with fail
  refine (hd_put_nil _ 1 1).mono ?_
  rintro e w6 ⟨rfl, b6'⟩
  have b6 := b5.trans (b6'.mono b5.size)
  have p0 := cell_later b6' p0
  have p1 := cell_later b6' p1
  have HZ6 : Hid (w.heap.size + 1 ≤ w6.heap.size) := Lib.hid (by have := b6'.size; have := HZ5.out; omega)
  clear b6' b5
  go_wp2_with fail
  refine (hd_join_nil _ none).mono ?_
  rintro e w7 ⟨rfl, b7'⟩
  have b7 := b6.trans (b7'.mono b6.size)
  have p0 := cell_later b7' p0
  have p1 := cell_later b7' p1
  have HZ7 : Hid (w.heap.size + 1 ≤ w7.heap.size) := Lib.hid (by have := b7'.size; have := HZ6.out; omega)
  clear b7' b6
  go_wp2_with fail
  refine (hd_total_nil HN.out _).mono ?_
  rintro e w8 ⟨rfl, b8'⟩
  have b8 := b7.trans (b8'.mono b7.size)
  have p0 := cell_later b8' p0
  have p1 := cell_later b8' p1
  have HZ8 : Hid (w.heap.size + 1 ≤ w8.heap.size) := Lib.hid (by have := b8'.size; have := HZ7.out; omega)
  clear b8' b7
  go_wp2_with fail
  refine (hd_zero_nil _).mono ?_
  rintro e w9 ⟨rfl, b9'⟩
  have b9 := b8.trans (b9'.mono b8.size)
  have p0 := cell_later b9' p0
  have p1 := cell_later b9' p1
  have HZ9 : Hid (w.heap.size + 1 ≤ w9.heap.size) := Lib.hid (by have := b9'.size; have := HZ8.out; omega)
  clear b9' b8
  go_wp2_with fail
  refine (hd_config_nil _).mono ?_
  rintro e w10 ⟨rfl, b10'⟩
  have b10 := b9.trans (b10'.mono b9.size)
  have p0 := cell_later b10' p0
  have p1 := cell_later b10' p1
  have HZ10 : Hid (w.heap.size + 1 ≤ w10.heap.size) := Lib.hid (by have := b10'.size; have := HZ9.out; omega)
  have HB10 := Lib.hid b10
  clear b10' b9 b10
  go_wp2_with fail
  clear q00
  refine (HNW.out _ HB10.out).mono ?_
  rintro e w11 (⟨q1, q2, q3, L, T, B, S1, hs, rfl, hX, hS, b11'⟩ | ⟨hno, rfl, b11'⟩)
  case inr =>
    have b11 := HB10.out.trans (b11'.mono HB10.out.size)
    have p0 := cell_later b11' p0
    have p1 := cell_later b11' p1
    have HB11 := Lib.hid b11
    have hno2 : cd < 1 ∨ (1 ≤ cd ∧ 4 < cd) ∨ (1 ≤ cd ∧ cd ≤ 4 ∧ 9223372036854775808 < cl) := by omega
    clear b11' b11 hno HNW
    rcases hno2 with h1 | ⟨h1, h2⟩ | ⟨h1, h2, h3⟩
    · have k1 : ¬ 1 ≤ cd := by omega
      go_wp2_with fail
      refine (HBU.out _ HB11.out).mono ?_
      rintro e w12 (⟨B', S', L', T', M', rfl, _, _, _, _, _, _, _, _, b12⟩ | ⟨rfl, b12⟩)
      all_goals
        have b12 := HB11.out.trans (b12.mono HB11.out.size)
        go_wp2_with fail
        go_ret
        exact ⟨rfl, b12⟩
    · have k1 : ¬ cd ≤ 4 := by omega
      go_wp2_with fail
      refine (HBU.out _ HB11.out).mono ?_
      rintro e w12 (⟨B', S', L', T', M', rfl, _, _, _, _, _, _, _, _, b12⟩ | ⟨rfl, b12⟩)
      all_goals
        have b12 := HB11.out.trans (b12.mono HB11.out.size)
        go_wp2_with fail
        go_ret
        exact ⟨rfl, b12⟩
    · have k1 : ¬ cl ≤ 9223372036854775808 := by omega
      go_wp2_with fail
      refine (HBU.out _ HB11.out).mono ?_
      rintro e w12 (⟨B', S', L', T', M', rfl, _, _, _, _, _, _, _, _, b12⟩ | ⟨rfl, b12⟩)
      all_goals
        have b12 := HB11.out.trans (b12.mono HB11.out.size)
        go_wp2_with fail
        go_ret
        exact ⟨rfl, b12⟩
  have b11 := HB10.out.trans (b11'.mono HB10.out.size)
  have p0 := cell_later b11' p0
  have p1 := cell_later b11' p1
  have HB11 := Lib.hid b11
  have HX := Lib.hid hX
  have HSW : Hid (∀ k, S1 k → w.heap.size < k) := Lib.hid fun k hk => by have := hS k hk; have := HZ10.out; omega
  have HSLT := Lib.hid (hX.lt HD.out)
  have HSP := Lib.hid hs
  clear b11' hX hS hs b11 HNW
  go_wp2_with fail
  refine (HBU.out _ HB11.out).mono ?_
  rintro e w12 (⟨B', S', L', T', M', rfl, hs', hf, hl60, hX', hbk', hS', hM', hSM', b12'⟩ | ⟨rfl, b12'⟩)
  case inr =>
    have b12 := HB11.out.trans (b12'.mono HB11.out.size)
    go_wp2_with fail
    go_ret
    exact ⟨rfl, b12⟩
  obtain ⟨rfl, rfl⟩ : L' = L ∧ T' = T := by have h1 := HSP.out; unfold SpanP at h1 hs'; omega
  have b12 := HB11.out.trans (b12'.mono HB11.out.size)
  have p0 := cell_later b12' p0
  have p1 := cell_later b12' p1
  have HB12 := Lib.hid b12
  have HX12 := Lib.hid (HX.out.call HD.out b12')
  have HX' := Lib.hid hX'
  have HF := Lib.hid hf
  have HBK' := Lib.hid hbk'
  have HDIS : Hid (∀ k, S1 k → ¬ S' k) := Lib.hid fun k h h' => by have := HSLT.out k h; have := hS' k h'; omega
  have HMS : Hid (¬ S1 M') := Lib.hid fun h => by have := HSLT.out M' h; omega
  have HLT1 := Lib.hid (HX12.out.lt HD.out)
  have HLT' := Lib.hid (hX'.lt HD.out)
  have HA12 := Lib.hid (HA.out.call b12)
  clear b12' hX' hf hbk' hS' hM' hSM' hs' b12 HX HBU
  go_wp2_with fail
  go_loopw [23, 149] (fun vin j wr => ∃ (k : Nat) (v : Value) (Sk : Nat → Prop), k ≤ A.length ∧ j = .int .i64 k ∧ v = vin ∧ ErrI St w12 B S1 cd L' T' cl A k v Sk wr) (fun _ j _ => A.length - (intOf j).toNat)
  case atStart => exact ⟨0, .slice none 0 0, S1, Nat.zero_le _, rfl, rfl, OwnV.nil _ _, HX12.out, fun i h => Or.inl h, fun g h => (by cases h), Keeps.refl S1 w12⟩
  case round =>
    obtain ⟨k, v, Sk, hk, rfl, rfl, hI⟩ := hrel
    obtain ⟨hown, hxk, hsk, hvk, hkp⟩ := hI
    have hnc : ¬ S1 w.heap.size := fun h => by have := HSW.out _ h; omega
    have p0 : wr.cell? ⟨w.heap.size, 0, none⟩ = some (.int .i64 cd) := hkp.cell hnc p0
    have p1 : wr.cell? ⟨w.heap.size, 1, none⟩ = some (.int .u64 cl) := hkp.cell hnc p1
    have hAr := hd_pairs HA12.out hkp (fun b off e hne => fun h => by
      have h1 := HSW.out b h
      cases hAA : A with
      | nil => exact hne hAA
      | cons p q =>
        obtain ⟨b', off', e', hb', _⟩ := HA.out.at_ 0 p (by rw [hAA]; rfl)
        rw [e] at e'
        obtain ⟨rfl, _, _⟩ := Addr.mk.inj (Option.some.inj e')
        omega)
    have HAR := Lib.hid hAr
    have HOW := Lib.hid hown
    have HXK := Lib.hid hxk
    have HSK := Lib.hid hsk
    have HVK := Lib.hid hvk
    have HKP := Lib.hid hkp
    have hz12 := hkp.size
    have hif := in_fine (lim := cl) (fine_take HF.out k)
    have hil : (inV cl (A.take k)).length ≤ 60 := by have := in_len cl (A.take k); have := List.length_take_le k A; omega
    have HIF := Lib.hid hif
    have hcw : w.heap.size < w12.heap.size := World.block_lt_of_cell? (a := ⟨w.heap.size, 0, none⟩) _ (by assumption)
    clear hown hxk hsk hvk hAr hif
    by_cases hlt : k < A.length
    · have kl : (k : Int) < A.length := by omega
      have hxk : A[k]? = some A[k] := List.getElem?_eq_getElem hlt
      generalize hit : A[k] = p at *
      obtain ⟨px, pc⟩ := p
      obtain ⟨bb, off, rfl, hbl, c0, c1⟩ := HAR.out.at_ k _ hxk
      obtain ⟨f1, f2, f3⟩ := HF.out _ (List.mem_of_getElem? hxk)
      have hwc := (HAR.out.ok _ (List.mem_of_getElem? hxk)).2
      have HIX := Lib.hid f1
      have HXX := Lib.hid hxk
      obtain ⟨o1, o2⟩ := f1
      obtain ⟨o3, o4⟩ := hwc
      simp only at c0 c1 o1 o2 o3 o4 f2 f3 HIX
      have hbn : Below wr.heap.size wr (wr.alloc (.cells #[.int .i64 px, .int .u64 pc] 67)) := (Below.refl _ _).alloc (Nat.le_refl _) _
      have p1n := cell_later hbn p1
      have p0n := cell_later hbn p0
      obtain ⟨e0, e1⟩ := hd_two wr (.int .i64 px) (.int .u64 pc) 67
      have HBN := Lib.hid hbn
      have HOW' := Lib.hid (HOW.out.call hbn)
      have HX' := Lib.hid (HXK.out.call HD.out hbn)
      have HLT := Lib.hid (HXK.out.lt HD.out)
      have hzn : (wr.alloc (.cells #[.int .i64 px, .int .u64 pc] 67)).heap.size = wr.heap.size + 1 := by simp
      have HSZ := Lib.hid (fun W => size_any px HIX.out W)
      have HTK : Hid (takB cl px = (decide (cl = 0) || decide (mag px ≤ cl))) := Lib.hid rfl
      generalize mag px = mp at *
      clear hxk hit hbn p0 p1
      -- what is done when the value is let
      have yes : takB cl px = true → ∀ W, Below (wr.alloc (.cells #[.int .i64 px, .int .u64 pc] 67)).heap.size (wr.alloc (.cells #[.int .i64 px, .int .u64 pc] 67)) W →
          Calls Tryd.prog 26 #[.pointer (some ⟨B, 0, none⟩), .int .i64 px, .int .u64 pc] W fun e w6 => e = .returned (.int .i64 0) ∧ ∃ S6, HdX St w6 B S6 cd L' cl (hdV (.spans cd L' T') (inV cl (A.take (k + 1)))) ∧ Keeps Sk W w6 ∧ (∀ i, S6 i → Sk i ∨ W.heap.size ≤ i) := fun htk W hW => by
        refine (hd_putv HD.out HSP.out (HX'.out.call HD.out hW) HIF.out (by omega) px pc HIX.out f2 f3 htk).mono ?_
        rintro e w6 ⟨rfl, S6, hx6, hk6, hS6⟩
        refine ⟨rfl, S6, ?_, hk6, hS6⟩
        rw [in_snoc cl HXX.out, if_pos htk]
        exact hx6
      have no : takB cl px = false → ∀ W, Below (wr.alloc (.cells #[.int .i64 px, .int .u64 pc] 67)).heap.size (wr.alloc (.cells #[.int .i64 px, .int .u64 pc] 67)) W →
          Calls Tryd.prog 26 #[.pointer (some ⟨B, 0, none⟩), .int .i64 px, .int .u64 pc] W fun e w6 => e = .returned (.int .i64 7) ∧ Below W.heap.size W w6 := fun htk W hW => by
        obtain ⟨_, _, _, _, _, _, _, hr, _⟩ := HX'.out.call HD.out hW
        exact hd_put_range hr.cells.c1 px pc HIX.out f2 htk
      have YES := Lib.hid yes
      have NO := Lib.hid no
      have HPB := Lib.hid (fun (W : World) (h : W.cell? ⟨w.heap.size, 1, none⟩ = some (.int .u64 cl) ∧ W.cell? ⟨wr.heap.size, 0, none⟩ = some (.int .i64 px) ∧ Below (wr.alloc (.cells #[.int .i64 px, .int .u64 pc] 67)).heap.size (wr.alloc (.cells #[.int .i64 px, .int .u64 pc] 67)) W) => h)
      clear yes no
      have fin : takB cl px = false → ∀ W w6, Below (wr.alloc (.cells #[.int .i64 px, .int .u64 pc] 67)).heap.size (wr.alloc (.cells #[.int .i64 px, .int .u64 pc] 67)) W → Below W.heap.size W w6 → ErrI St w12 B S1 cd L' T' cl A (k + 1) v Sk w6 := fun htk W w6 h1 h2 => by
        have hb : Below wr.heap.size wr w6 := HBN.out.trans ((h1.trans (h2.mono h1.size)).mono HBN.out.size)
        unfold ErrI
        rw [in_snoc cl HXX.out, if_neg (by rw [htk]; decide)]
        exact ⟨HOW.out.call hb, HXK.out.call HD.out hb, HSK.out, HVK.out, keeps_then HKP.out (Keeps.of_below (S := S1) hb) (fun i _ h => h)⟩
      have FIN := Lib.hid fin
      clear fin
      obtain ⟨nk, hnk⟩ : ∃ nk, (inV cl (A.take k)).length = nk := ⟨_, rfl⟩
      have HNK := Lib.hid hnk
      rw [hnk] at hil
      have HCE : Hid (∀ W, Below (wr.alloc (.cells #[.int .i64 px, .int .u64 pc] 67)).heap.size (wr.alloc (.cells #[.int .i64 px, .int .u64 pc] 67)) W → W.cell? ⟨wr.heap.size, 0, none⟩ = some (.int .i64 px) ∧ W.cell? ⟨wr.heap.size, 1, none⟩ = some (.int .u64 pc)) := Lib.hid fun W h => ⟨cell_later h e0, cell_later h e1⟩
      have fin2 : takB cl px = true → ∀ W w6 S6 w9 (g' cap' : Nat), Below (wr.alloc (.cells #[.int .i64 px, .int .u64 pc] 67)).heap.size (wr.alloc (.cells #[.int .i64 px, .int .u64 pc] 67)) W → HdX St w6 B S6 cd L' cl (hdV (.spans cd L' T') (inV cl (A.take (k + 1)))) → Keeps Sk W w6 → (∀ i, S6 i → Sk i ∨ W.heap.size ≤ i) →
          OwnV w9 w12.heap.size (.slice (some ⟨g', 0, none⟩) (nk + 1) cap') (inV cl (A.take k) ++ [(px, pc)]) → (w6.alloc (.cells #[.int .i64 px, .int .u64 pc] 67)).grownBy w9 v.ownBlock → (v.ownBlock = some g' ∨ g' = w6.heap.size + 1) → ErrI St w12 B S1 cd L' T' cl A (k + 1) (.slice (some ⟨g', 0, none⟩) (nk + 1) cap') S6 w9 := by
        intro htk W w6 S6 w9 g' cap' hW hx6 hk6 hS6 hown9 hg9 hlie
        have hzW := hW.size
        have hz6 := hk6.size
        have hvl := HOW.out.lt
        have hx6lt := hx6.lt HD.out
        have hbn6 : Below w6.heap.size w6 (w6.alloc (.cells #[.int .i64 px, .int .u64 pc] 67)) := (Below.refl _ _).alloc (Nat.le_refl _) _
        have hz7 : (w6.alloc (.cells #[.int .i64 px, .int .u64 pc] 67)).heap.size = w6.heap.size + 1 := by simp
        have hk0 : Keeps S1 w12 w6 := by
          refine keeps_then HKP.out (keeps_then (S := fun i => S1 i ∨ w12.heap.size ≤ i) (Keeps.of_below (HBN.out.trans (hW.mono HBN.out.size))) hk6 (fun i _ h => HSK.out i h)) (fun i hi h => ?_)
          rcases h with h | h
          · exact h
          · omega
        have hk7 : Keeps S1 w12 (w6.alloc (.cells #[.int .i64 px, .int .u64 pc] 67)) := keeps_then hk0 (Keeps.of_below (S := S1) hbn6) (fun i _ h => h)
        have hsv : ∀ g, v.ownBlock = some g → ¬ S6 g := fun g hg h => by
          rcases hS6 g h with h | h
          · exact HVK.out g hg h
          · have := (hvl g hg).2; omega
        unfold ErrI
        rw [in_snoc cl HXX.out, if_pos htk]
        rw [in_snoc cl HXX.out, if_pos htk] at hx6
        refine ⟨hown9, ?_, fun i hi => ?_, fun g hg => ?_, ?_⟩
        · refine (hx6.call HD.out hbn6).keep HD.out fun i hi => hg9.block i (by have := hx6lt i hi; omega) (fun e => hsv i e.symm hi)
        · rcases hS6 i hi with h | h
          · exact HSK.out i h
          · exact Or.inr (by omega)
        · have hgg : g = g' := by simpa [Value.ownBlock] using hg.symm
          subst hgg
          rcases hlie with h | h
          · exact hsv g h
          · intro hh; have := hx6lt g hh; omega
        · exact keeps_own hk7 hg9 fun i hi => (hvl i hi).1
      have FIN2 := Lib.hid fin2
      clear fin2 hnk e0 e1
      obtain ⟨ce0, ce1⟩ := HCE.out _ (Below.refl _ _)
      by_cases hc0 : cl = 0
      · have hg0 : decide (0 < cl) = false := decide_eq_false (by omega)
        have hg1 : ¬ 0 < cl := by omega
        have htk : takB cl px = true := by rw [HTK.out, decide_eq_true hc0]; rfl
        have hgd : Hid (takB cl px = true) := Lib.hid htk
        clear htk hc0
        go_wp2_with fail
        go_quiet (fail)
        have hWb := below_drewN (Below.refl (wr.alloc (.cells #[.int .i64 px, .int .u64 pc] 67)).heap.size (wr.alloc (.cells #[.int .i64 px, .int .u64 pc] 67))) nq
        have htk := hgd.out
        clear hgd ce0 ce1
        generalize hWe : (wr.alloc (.cells #[.int .i64 px, .int .u64 pc] 67)).drewN nq = W at *
        clear hWe
        obtain ⟨ce0, ce1⟩ := HCE.out W hWb
        go_wp2_with fail
        refine (YES.out htk W hWb).mono ?_
        rintro e w6 ⟨rfl, S6, hx6, hk6, hS6⟩
        have hnr : ¬ Sk wr.heap.size := fun h => by have := HLT.out _ h; omega
        have ce0 : w6.cell? ⟨wr.heap.size, 0, none⟩ = some (.int .i64 px) := hk6.cell hnr ce0
        have ce1 : w6.cell? ⟨wr.heap.size, 1, none⟩ = some (.int .u64 pc) := hk6.cell hnr ce1
        have hown6 := ownv_keeps hk6 (HOW'.out.call hWb) HVK.out
        have hbn6 : Below w6.heap.size w6 (w6.alloc (.cells #[.int .i64 px, .int .u64 pc] 67)) := (Below.refl _ _).alloc (Nat.le_refl _) _
        have HO6 := Lib.hid (hown6.call hbn6)
        obtain ⟨h60, h61⟩ := hd_two w6 (.int .i64 px) (.int .u64 pc) 67
        have H6 := Lib.hid (And.intro h60 h61)
        have HF2 := Lib.hid (fun g' cap' w9 a b c => FIN2.out htk W w6 S6 w9 g' cap' hWb hx6 hk6 hS6 a b c)
        have hz6 : w12.heap.size ≤ (w6.alloc (.cells #[.int .i64 px, .int .u64 pc] 67)).heap.size := by
          have := hk6.size; have := hWb.size; have := HBN.out.size; have := hbn6.size; omega
        have HZ6 := Lib.hid hz6
        clear hx6 hk6 hS6 hown6 hbn6 h60 h61 hz6
        go_wp2_with (at_builtin; refine wpList_append_val15 rfl (.tmp 175) (.tmp 177) rfl w12.heap.size v (inV cl (A.take k)) nk HNK.out w6.heap.size (px, pc) rfl HO6.out rfl H6.out.1 H6.out.2 ?c1 ?c2 ?_)
        case c1 => omega
        case c2 => exact HZ6.out
        intro g' cap' w9 hown9 hg9 hlie
        have HI9 := Lib.hid (HF2.out g' cap' w9 hown9 hg9 hlie)
        clear hown9 hg9 hlie ce0 ce1
        go_wp2_with fail
        go_roundw
        case rel => exact ⟨k + 1, _, S6, by omega, by go_num, rfl, HI9.out⟩
        case measure => simp [intOf]; omega
      · have hc1 : 0 < cl := by omega
        have hg0 : decide (0 < cl) = true := decide_eq_true hc1
        have HS0 : Hid ((wr.alloc (.cells #[.int .i64 px, .int .u64 pc] 67)).drew.cell? ⟨w.heap.size, 1, none⟩ = some (.int .u64 cl) ∧ (wr.alloc (.cells #[.int .i64 px, .int .u64 pc] 67)).drew.cell? ⟨wr.heap.size, 0, none⟩ = some (.int .i64 px) ∧ Below (wr.alloc (.cells #[.int .i64 px, .int .u64 pc] 67)).heap.size (wr.alloc (.cells #[.int .i64 px, .int .u64 pc] 67)) (wr.alloc (.cells #[.int .i64 px, .int .u64 pc] 67)).drew) := Lib.hid ⟨p1n, ce0, (Below.refl _ _).drew⟩
        have HST := Lib.hid (fun (W W' : World) (h : W.cell? ⟨w.heap.size, 1, none⟩ = some (.int .u64 cl) ∧ W.cell? ⟨wr.heap.size, 0, none⟩ = some (.int .i64 px) ∧ Below (wr.alloc (.cells #[.int .i64 px, .int .u64 pc] 67)).heap.size (wr.alloc (.cells #[.int .i64 px, .int .u64 pc] 67)) W) (hb : Below W.heap.size W W') => (⟨cell_later hb h.1, cell_later hb h.2.1, h.2.2.trans (hb.mono h.2.2.size)⟩ : W'.cell? ⟨w.heap.size, 1, none⟩ = some (.int .u64 cl) ∧ W'.cell? ⟨wr.heap.size, 0, none⟩ = some (.int .i64 px) ∧ Below (wr.alloc (.cells #[.int .i64 px, .int .u64 pc] 67)).heap.size (wr.alloc (.cells #[.int .i64 px, .int .u64 pc] 67)) W'))
        by_cases hm : mp ≤ cl
        · have hg2 : ¬ cl < mp := by omega
          have hg3 : decide (cl < mp) = false := decide_eq_false hg2
          have hgd : Hid (takB cl px = true) := Lib.hid (by rw [HTK.out, decide_eq_true hm, Bool.or_true])
          clear hc0
          go_wp2_with fail
          go_region_held3 (fun w' => w'.cell? ⟨w.heap.size, 1, none⟩ = some (.int .u64 cl) ∧ w'.cell? ⟨wr.heap.size, 0, none⟩ = some (.int .i64 px) ∧ Below (wr.alloc (.cells #[.int .i64 px, .int .u64 pc] 67)).heap.size (wr.alloc (.cells #[.int .i64 px, .int .u64 pc] 67)) w')
            (first | exact HS0.out | assumption)
            ((go_at_call 30; refine (HSZ.out _).mono ?_; rintro e wA ⟨rfl, rfl⟩))
          all_goals
            rename_i hHeld
            obtain ⟨_, _, hWb⟩ := hHeld
            have htk := hgd.out
            clear ce0 ce1
            generalize hWe : (wr.alloc (.cells #[.int .i64 px, .int .u64 pc] 67)).drew = W at *
            clear hWe
            obtain ⟨ce0, ce1⟩ := HCE.out W hWb
            go_wp2_with fail
            refine (YES.out htk W hWb).mono ?_
            rintro e w6 ⟨rfl, S6, hx6, hk6, hS6⟩
            have hnr : ¬ Sk wr.heap.size := fun h => by have := HLT.out _ h; omega
            have ce0 : w6.cell? ⟨wr.heap.size, 0, none⟩ = some (.int .i64 px) := hk6.cell hnr ce0
            have ce1 : w6.cell? ⟨wr.heap.size, 1, none⟩ = some (.int .u64 pc) := hk6.cell hnr ce1
            have hown6 := ownv_keeps hk6 (HOW'.out.call hWb) HVK.out
            have hbn6 : Below w6.heap.size w6 (w6.alloc (.cells #[.int .i64 px, .int .u64 pc] 67)) := (Below.refl _ _).alloc (Nat.le_refl _) _
            have HO6 := Lib.hid (hown6.call hbn6)
            obtain ⟨h60, h61⟩ := hd_two w6 (.int .i64 px) (.int .u64 pc) 67
            have H6 := Lib.hid (And.intro h60 h61)
            have HF2 := Lib.hid (fun g' cap' w9 a b c => FIN2.out htk W w6 S6 w9 g' cap' hWb hx6 hk6 hS6 a b c)
            have hz6 : w12.heap.size ≤ (w6.alloc (.cells #[.int .i64 px, .int .u64 pc] 67)).heap.size := by
              have := hk6.size; have := hWb.size; have := HBN.out.size; have := hbn6.size; omega
            have HZ6 := Lib.hid hz6
            clear hx6 hk6 hS6 hown6 hbn6 h60 h61 hz6
            go_wp2_with (at_builtin; refine wpList_append_val15 rfl (.tmp 175) (.tmp 177) rfl w12.heap.size v (inV cl (A.take k)) nk HNK.out w6.heap.size (px, pc) rfl HO6.out rfl H6.out.1 H6.out.2 ?c1 ?c2 ?_)
            case c1 => omega
            case c2 => exact HZ6.out
            intro g' cap' w9 hown9 hg9 hlie
            have HI9 := Lib.hid (HF2.out g' cap' w9 hown9 hg9 hlie)
            clear hown9 hg9 hlie ce0 ce1
            go_wp2_with fail
            go_roundw
            case rel => exact ⟨k + 1, _, S6, by omega, by go_num, rfl, HI9.out⟩
            case measure => simp [intOf]; omega
        · have hg2 : cl < mp := by omega
          have hg3 : decide (cl < mp) = true := decide_eq_true hg2
          have hgd : Hid (takB cl px = false) := Lib.hid (by rw [HTK.out, decide_eq_false hm, decide_eq_false hc0]; rfl)
          clear hc0
          go_wp2_with fail
          go_region_held3 (fun w' => w'.cell? ⟨w.heap.size, 1, none⟩ = some (.int .u64 cl) ∧ w'.cell? ⟨wr.heap.size, 0, none⟩ = some (.int .i64 px) ∧ Below (wr.alloc (.cells #[.int .i64 px, .int .u64 pc] 67)).heap.size (wr.alloc (.cells #[.int .i64 px, .int .u64 pc] 67)) w')
            (first | exact HS0.out | assumption)
            ((go_at_call 30; refine (HSZ.out _).mono ?_; rintro e wA ⟨rfl, rfl⟩))
          all_goals
            rename_i hHeld
            obtain ⟨_, _, hWb⟩ := hHeld
            have htk := hgd.out
            generalize hWe : (wr.alloc (.cells #[.int .i64 px, .int .u64 pc] 67)).drew = W at *
            clear hWe ce0 ce1
            obtain ⟨ce0, ce1⟩ := HCE.out W hWb
            go_wp2_with fail
            refine (NO.out htk W hWb).mono ?_
            rintro e w6 ⟨rfl, hb6⟩
            have HI9 := Lib.hid (FIN.out htk W w6 hWb hb6)
            clear hb6 ce0 ce1
            go_wp2_with fail
            go_roundw
            case rel => exact ⟨k + 1, v, Sk, by omega, by go_num, rfl, HI9.out⟩
            case measure => simp [intOf]; omega
    · obtain rfl : k = A.length := by omega
      have kl : ¬ (A.length : Int) < A.length := by omega
      rw [List.take_length] at HOW HXK HIF hil
      have hokI : ∀ p, p ∈ inV cl A → okP p := fun p hp => HA.out.ok p (List.mem_filter.1 hp).1
      obtain ⟨ai, ci, rfl⟩ := HOW.out.form
      have hpI := OwnV.row HOW.out hokI
      have hlies := OwnV.lies HOW.out
      have hxl := HXK.out.lt HD.out
      obtain ⟨nI, hnI⟩ : ∃ nI, (inV cl A).length = nI := ⟨_, rfl⟩
      rw [hnI]
      have hb20 : Below wr.heap.size wr (wr.alloc (.cells #[.slice none 0 0, .slice none 0 0, .int .i64 cd, .int .i64 0, .int .i64 4096, .slice ai nI ci] 59)) := (Below.refl _ _).alloc (Nat.le_refl _) _
      have hbk20 : BinBlk (wr.alloc (.cells #[.slice none 0 0, .slice none 0 0, .int .i64 cd, .int .i64 0, .int .i64 4096, .slice ai nI ci] 59)) wr.heap.size cd ai nI ci := heap_new _ _
      have hnM : ¬ Sk wr.heap.size := fun h => by have := hxl _ h; omega
      have hbw : Below w.heap.size w wr := Keeps.below HB12.out HKP.out HB12.out.size (fun i h => by have := HSW.out i h; omega)
      have HBW := Lib.hid hbw
      have HB20 := Lib.hid hb20
      have HBK20 := Lib.hid hbk20
      have HX20 := Lib.hid (HXK.out.call HD.out hb20)
      have HP20 := Lib.hid (hpI.call hb20)
      have HNI := Lib.hid hnI
      have HNM := Lib.hid hnM
      have p0 := cell_later hb20 p0
      have p1 := cell_later hb20 p1
      have hbw20 := hbw.trans (hb20.mono hbw.size)
      have HBW20 := Lib.hid hbw20
      clear hokI hpI hlies hxl hnI hb20 hbk20 hnM hbw hbw20
      have hd20 : 1 ≤ cd % 4 + 1 ∧ cd % 4 + 1 ≤ 4 ∧ cd ≠ cd % 4 + 1 := by omega
      have HD20 := Lib.hid hd20
      have hx'r := HX'.out.past HD.out HKP.out (fun k h h' => HDIS.out k h' h)
      have HX'20 := Lib.hid (hx'r.call HD.out HB20.out)
      have hbk'r : BinBlk wr M' cd a A.length cap := (HKP.out.block M' (lt_of_block HBK'.out) HMS.out).trans HBK'.out
      have HBK'20 := Lib.hid ((HB20.out.block M' (lt_of_block hbk'r)).trans hbk'r)
      have HA20 := Lib.hid (HAR.out.call HB20.out)
      have HSL : Hid (∀ i, Sk i → w.heap.size < i) := Lib.hid fun i h => by
        rcases HSK.out i h with h | h
        · exact HSW.out i h
        · omega
      have HDS : Hid (∀ i, Sk i → ¬ S' i) := Lib.hid fun i h h' => by
        rcases HSK.out i h with h | h
        · exact HDIS.out i h h'
        · have := HLT'.out i h'; omega
      have HMSk : Hid (¬ Sk M') := Lib.hid fun h => by
        rcases HSK.out M' h with h | h
        · exact HMS.out h
        · have := lt_of_block HBK'.out; omega
      clear hd20 hx'r hbk'r
      go_wp2_with fail
      generalize wr.alloc (.cells #[.slice none 0 0, .slice none 0 0, .int .i64 cd, .int .i64 0, .int .i64 4096, .slice ai nI ci] 59) = w20 at *
      refine (HNW2.out _ (cd % 4 + 1) (by unfold I64; omega) HBW20.out).mono ?_
      rintro e w21 (⟨_, _, _, L2, T2, B2, S2, hs2, rfl, hX2, hS2, b21'⟩ | ⟨hno, rfl, b21'⟩)
      case inr => exact absurd ⟨HD20.out.1, HD20.out.2.1, by decide⟩ hno
      have p0 := cell_later b21' p0
      have p1 := cell_later b21' p1
      have HX21 := Lib.hid (HX20.out.call HD.out b21')
      have HX'21 := Lib.hid (HX'20.out.call HD.out b21')
      have HP21 := Lib.hid (HP20.out.call b21')
      have HA21 := Lib.hid (HA20.out.call b21')
      have hbk21 : BinBlk w21 wr.heap.size cd ai nI ci := (b21'.block _ (lt_of_block HBK20.out)).trans HBK20.out
      have hbk'21 : BinBlk w21 M' cd a A.length cap := (b21'.block _ (lt_of_block HBK'20.out)).trans HBK'20.out
      have HBK21 := Lib.hid hbk21
      have HBK'21 := Lib.hid hbk'21
      have HX2 := Lib.hid hX2
      have HB21 := Lib.hid (HBW20.out.trans (b21'.mono HBW20.out.size))
      have hP : (Pt.spans cd L' T').ok := HSP.out
      have hbd := fine_bd HIF.out (by omega)
      have hall := hdv_all hP HIF.out (by omega)
      have hall' := hdv_all hP HF.out (by omega)
      have hbd' := fine_bd HF.out (by omega)
      obtain ⟨l1a, l2a⟩ := hdv_len hP HIF.out (by omega)
      obtain ⟨l3a, l4a⟩ := hdv_len hP HF.out (by omega)
      obtain ⟨T, hT⟩ : ∃ T, sumP (inV cl A) = T := ⟨_, rfl⟩
      rw [hT] at hbd hall
      have tz : takB cl 0 = true := by unfold takB; rw [mag_zero, decide_eq_true l0, Bool.or_true]
      have HA0 := Lib.hid (fun W => hd_put_arg W B 0)
      have HTO := Lib.hid (fun W (hb : Below w21.heap.size w21 W) => by
        have hr := refn_blk L' T' (w := W) (M := wr.heap.size) (d := cd) (a := ai) (cap := ci) (A := inV cl A) (by rw [HNI.out]; exact (hb.block _ (lt_of_block HBK21.out)).trans HBK21.out) (HP21.out.call hb)
        exact rtotal13_any W wr.heap.size (.spans cd L' T') false 4096 (inV cl A) T hr (by omega) hT (by omega))
      have HAF := Lib.hid (fun W (hb : Below w21.heap.size w21 W) => hd_put_full HD.out (HX21.out.call HD.out hb) (by omega) (by omega) 0 (9223372036854775808 - T) (by unfold I64; omega) (by unfold Word; omega) (by omega) tz (by rw [hall]; omega))
      have HJM := Lib.hid (fun W (hb : Below w21.heap.size w21 W) => by
        obtain ⟨_, _, _, _, _, _, _, hr, _⟩ := HX21.out.call HD.out hb
        obtain ⟨_, _, _, _, _, _, _, hr2, _⟩ := HX2.out.call HD.out hb
        exact hd_join_match hr.cells.c0 hr2.cells.c0 HD20.out.2.2)
      have HCF := Lib.hid (fun W (hb : Below w21.heap.size w21 W) => by
        obtain ⟨_, _, _, _, _, _, _, hr, _⟩ := HX21.out.call HD.out hb
        exact hd_config hr.cells.c0 hr.cells.c1)
      have HSM := Lib.hid (fun W (hb : Below w21.heap.size w21 W) => same15_any HD.out W B wr.heap.size Sk cd L' T' cl (inV cl A) ai ci HSP.out (HX21.out.call HD.out hb) (by rw [HNI.out]; exact (hb.block _ (lt_of_block HBK21.out)).trans HBK21.out) (HP21.out.call hb) HIF.out (by omega))
      have qcc := fun W => cfg15_neq cd cl cd cl W
      have ncc : (!(cd == cd && cl == cl)) = false := by simp
      rw [ncc] at qcc
      have ew1 : IntKind.u64.wrap (9223372036854775808 - T) = 9223372036854775808 - T := by rw [IntKind.wrap_u64]; omega
      have HS0 : Hid (w21.drew.cell? ⟨w.heap.size, 0, none⟩ = some (.int .i64 cd) ∧ w21.drew.cell? ⟨w.heap.size, 1, none⟩ = some (.int .u64 cl) ∧ Below w21.heap.size w21 w21.drew) := Lib.hid ⟨p0, p1, (Below.refl _ _).drew⟩
      have HST := Lib.hid (fun (W W' : World) (h : W.cell? ⟨w.heap.size, 0, none⟩ = some (.int .i64 cd) ∧ W.cell? ⟨w.heap.size, 1, none⟩ = some (.int .u64 cl) ∧ Below w21.heap.size w21 W) (hb : Below W.heap.size W W') => (⟨cell_later hb h.1, cell_later hb h.2.1, h.2.2.trans (hb.mono h.2.2.size)⟩ : W'.cell? ⟨w.heap.size, 0, none⟩ = some (.int .i64 cd) ∧ W'.cell? ⟨w.heap.size, 1, none⟩ = some (.int .u64 cl) ∧ Below w21.heap.size w21 W'))
      have HLE := Lib.hid (And.intro (And.intro l1a l2a) (And.intro l3a l4a))
      have HAL' := Lib.hid (And.intro hall (And.intro hall' hbd'))
      have HLI := Lib.hid (in_len cl A)
      have hTT := hbd
      clear b21' hX2 hS2 hs2 hbk21 hbk'21 hP hall hall' hbd' l1a l2a l3a l4a tz ncc hT
      go_wp2_with fail
      go_region_held3 (fun w' => w'.cell? ⟨w.heap.size, 0, none⟩ = some (.int .i64 cd) ∧ w'.cell? ⟨w.heap.size, 1, none⟩ = some (.int .u64 cl) ∧ Below w21.heap.size w21 w')
        (first | exact HS0.out | exact HST.out _ _ (by assumption) hbA | assumption)
        ((first
          | (go_at_call 15; refine (HSM.out _ (And.right (And.right (by assumption)))).mono ?_; rintro e wA ⟨rfl, hbA⟩)
          | (go_at_call 18; refine (HTO.out _ (And.right (And.right (by assumption)))).mono ?_; rintro e wA ⟨rfl, hbA⟩)
          | (go_at_call 29; refine (HCF.out _ (And.right (And.right (by assumption)))).mono ?_; rintro e wA ⟨rfl, hbA⟩)
          | (go_at_call 24; refine (HJM.out _ (And.right (And.right (by assumption)))).mono ?_; rintro e wA ⟨rfl, hbA⟩)
          | (go_at_call 26; first | (with_reducible refine (HA0.out _).mono ?_; rintro e wA ⟨rfl, hbA⟩) | (refine (HAF.out _ (And.right (And.right (by assumption)))).mono ?_; rintro e wA ⟨rfl, hbA⟩))))
      all_goals
        rename_i hHeld
        obtain ⟨_, _, b22⟩ := hHeld
        have HB22 := Lib.hid b22
        have hli := HLI.out
        rw [HNI.out] at hli
        clear qcc ew1
        by_cases hlen : nI < A.length
        · have hlen2 : (nI : Int) < A.length := by omega
          obtain ⟨hne, hor⟩ := in_some HF.out l0 (by rw [HNI.out]; exact hlen)
          have HJR := Lib.hid (hd_join_range HD.out (HX21.out.call HD.out HB22.out) (HX'21.out.call HD.out HB22.out) (by have := HLE.out; omega) (by have := HLE.out; omega) (by rw [HAL'.out.2.1]; exact fun e => hne ((sum_zero15 HF.out).1 e)) hor)
          clear hne hor b22
          go_wp2_with fail
          refine HJR.out.mono ?_
          rintro e w23 ⟨rfl, b23⟩
          have b23 := HB22.out.trans (b23.mono HB22.out.size)
          have HB23 := Lib.hid b23
          clear b23
          go_wp2_with fail
          refine (HSM.out _ HB23.out).mono ?_
          rintro e w24 ⟨rfl, b24⟩
          have b24 := HB23.out.trans (b24.mono HB23.out.size)
          go_wp2_with fail
          go_ret
          exact ⟨rfl, HB21.out.trans (b24.mono HB21.out.size)⟩
        · have hlen2 : ¬ (nI : Int) < A.length := by omega
          obtain ⟨hI, hallt⟩ := in_all (lim := cl) (A := A) (by rw [HNI.out]; omega)
          have key : ∀ W, Below w21.heap.size w21 W → Calls Tryd.prog 24 #[.pointer (some ⟨B, 0, none⟩), .pointer (some ⟨B', 0, none⟩)] W fun e w' => e = .returned (.int .i64 0) ∧ Keeps Sk W w' := fun W hb => by
            by_cases h0 : A = []
            · subst h0
              refine (hd_join_none HD.out (HX21.out.call HD.out hb) (HX'21.out.call HD.out hb) (by have := HLE.out; omega) (by have := HLE.out; omega) (by rw [HAL'.out.2.1]; rfl)).mono ?_
              rintro e w' ⟨rfl, hb'⟩
              exact ⟨rfl, Keeps.of_below hb'⟩
            · obtain ⟨t1, t2⟩ := tak_ends h0 hallt
              refine (hd_join_ok HD.out (HX21.out.call HD.out hb) (HX'21.out.call HD.out hb) rfl HDS.out (by have := HLE.out; omega) (by have := HLE.out; omega) (by have := HLE.out; omega) (by have := HLE.out; omega) (by rw [HAL'.out.1, HAL'.out.2.1]; have := HAL'.out.2.2; omega) (by rw [HAL'.out.2.1]; exact fun e => h0 ((sum_zero15 HF.out).1 e)) t1 t2).mono ?_
              rintro e w' ⟨rfl, S6, _, hk6, _⟩
              exact ⟨rfl, hk6⟩
          have HJ := Lib.hid (key _ HB22.out)
          clear hI hallt key b22
          go_wp2_with fail
          refine HJ.out.mono ?_
          rintro e w23 ⟨rfl, hk23⟩
          have hx23 := (HX'21.out.call HD.out HB22.out).past HD.out hk23 (fun k h h' => HDS.out k h' h)
          have hbk22 : BinBlk _ M' cd a A.length cap := (HB22.out.block _ (lt_of_block HBK'21.out)).trans HBK'21.out
          have hbk23 : BinBlk w23 M' cd a A.length cap := (hk23.block _ (lt_of_block hbk22) HMSk.out).trans hbk22
          have hp23 := hd_pairs (HA21.out.call HB22.out) hk23 (fun b off e hne => fun h => by
            have h1 := HSL.out b h
            cases hAA : A with
            | nil => exact hne hAA
            | cons p q =>
              obtain ⟨b', off', e', hb', _⟩ := HA.out.at_ 0 p (by rw [hAA]; rfl)
              rw [e] at e'
              obtain ⟨rfl, _, _⟩ := Addr.mk.inj (Option.some.inj e')
              omega)
          have b23 : Below w.heap.size w w23 := Keeps.below (HB21.out.trans (HB22.out.mono HB21.out.size)) hk23 (by have := HB21.out.size; have := HB22.out.size; omega) (fun i h => by have := HSL.out i h; omega)
          have HSA := Lib.hid (same15_any HD.out w23 B' M' S' cd L' T' 0 A a cap HSP.out hx23 hbk23 hp23 HF.out (by omega))
          have HB23 := Lib.hid b23
          clear hk23 hx23 hbk22 hbk23 hp23 b23 HJ
          go_wp2_with fail
          refine HSA.out.mono ?_
          rintro e w24 ⟨rfl, b24⟩
          have b24 := HB23.out.trans (b24.mono HB23.out.size)
          go_wp2_with fail
          go_ret
          exact ⟨rfl, b24⟩
end Go.Proofs.YtojincgbnjkegaaDoor
