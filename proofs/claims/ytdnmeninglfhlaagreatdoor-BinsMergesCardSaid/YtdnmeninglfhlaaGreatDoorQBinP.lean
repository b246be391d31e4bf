/-
  Walks: the law BinsMerges, from what package bins is to do.
-/
import Derived.Test.YtdnmeninglfhlaaGreatDoorK6
import Derived.Test.YtdnmeninglfhlaaGreatDoorQBinR
import Derived.Deep.DeepCutAuto
import Derived.Deep.CutBlock
namespace Go.Proofs.YtdnmeninglfhlaaGreatDoor
set_option linter.unusedVariables false
set_option linter.unusedSimpArgs false
open Go.RowKit

/-- The reference's bins, and where their rows lie. -/
structure RefG (w : World) (M n : Nat) (P : Pt) (s : Bool) (m : Int) (A : List PairV) (a : Option Addr) (cap : Nat) : Prop where
  ref : RefN w M P s m A
  far : Far n w M
  v5 : w.cell? ⟨M, 5, none⟩ = some (.slice a A.length cap)
/-- What they are read of, when other blocks turn. -/
theorem RefG.skip {w w' : World} {M n : Nat} {P : Pt} {s : Bool} {m : Int} {A : List PairV} {a : Option Addr} {cap : Nat} {X : Nat → Prop} (h : RefG w M n P s m A a cap) (hX : ∀ k, X k → k < n) (hM : ¬ X M)
    (ha : ∀ (i : Nat) (p : PairV), A[i]? = some p → ∃ b off, a = some ⟨b, off, none⟩ ∧ ¬ X b) (hk : ∀ k, k < w.heap.size → ¬ X k → w'.heap[k]? = w.heap[k]?) (hs : w.heap.size ≤ w'.heap.size) : RefG w' M n P s m A a cap := by
  have hlt := h.ref.lt
  have hMs := hk M hlt hM
  obtain ⟨lo, re, dg, a0, cap0, h1, h2, h3⟩ := h.ref.ex
  have e5 : a0 = a := by
    have hv := h.v5
    rw [Joins.cell_of_block h3] at hv
    have : Value.slice a0 A.length cap0 = .slice a A.length cap := Option.some.inj hv
    injection this
  subst e5
  have hc : ∀ b o v, ¬ X b → w.cell? ⟨b, o, none⟩ = some v → w'.cell? ⟨b, o, none⟩ = some v := fun b o v hb hv => by
    have hl := World.block_lt_of_cell? (a := ⟨b, o, none⟩) w hv
    rw [cell_same (hk b hl hb) o]; exact hv
  refine ⟨⟨lo, re, dg, a0, cap0, ?_, ⟨h2.ok, fun i p hp => ?_⟩, hMs.trans h3⟩, far_same h.far hMs, by rw [cell_same hMs]; exact h.v5⟩
  · cases P with
    | cells u v k =>
      obtain ⟨h0, g, q, c, c', e1, e2, n1, n2, e3, e4⟩ := h1
      have fg : n ≤ g := h.far 0 g k c (Or.inl rfl) (by rw [Joins.cell_of_block h3, e1]; rfl)
      have fq : n ≤ q := h.far 1 q k c' (Or.inr rfl) (by rw [Joins.cell_of_block h3, e2]; rfl)
      exact ⟨h0, g, q, c, c', e1, e2, n1, n2, fun i hi => hc g i _ (fun x => by have := hX g x; omega) (e3 i hi), fun i hi => hc q i _ (fun x => by have := hX q x; omega) (e4 i hi)⟩
    | spans d L T => exact h1
  · obtain ⟨b, off, hb, hl, c0, c1⟩ := h2.at_ i p hp
    obtain ⟨b', off', hb', hne⟩ := ha i p hp
    obtain ⟨rfl, rfl⟩ : b = b' ∧ off = off' := by
      have := Option.some.inj (hb.symm.trans hb')
      exact ⟨(Addr.mk.inj this).1, (Addr.mk.inj this).2.1⟩
    exact ⟨b, off, hb, by omega, hc b _ _ hne c0, hc b _ _ hne c1⟩
theorem RefG.call {w w' : World} {M n : Nat} {P : Pt} {s : Bool} {m : Int} {A : List PairV} {a : Option Addr} {cap : Nat} (h : RefG w M n P s m A a cap) (hb : Below w.heap.size w w') : RefG w' M n P s m A a cap :=
  ⟨h.ref.call hb, far_same h.far (hb.block M h.ref.lt), by rw [cell_same (hb.block M h.ref.lt)]; exact h.v5⟩
/-- The reference's bins with a row of the call's own set. -/
theorem RefN.ownv {w : World} {M base n : Nat} {P : Pt} {s : Bool} {m : Int} {A : List PairV} {v : Value} (h : RefN w M P s m []) (hf : Far n w M) (hv : OwnV w base v A) (hok : ∀ p, p ∈ A → okP p) (hM : M < base) :
    ∃ a cap, v = .slice a A.length cap ∧ RefG (w.setCell ⟨M, 5, none⟩ v) M n P s m A a cap ∧ (∀ (i : Nat) (p : PairV), A[i]? = some p → ∃ b off, a = some ⟨b, off, none⟩ ∧ base ≤ b) := by
  have hp := hv.pairs hok
  obtain ⟨lo, re, dg, a0, cap0, h1, h2, h3⟩ := h.ex
  have hfar : Far n (w.setCell ⟨M, 5, none⟩ v) M := by
    refine far_block (by rw [Joins.block_setCell h3]; rfl) (fun g l c e => ?_) (fun g l c e => ?_)
    · exact hf 0 g l c (Or.inl rfl) (by rw [Joins.cell_of_block h3, e]; rfl)
    · exact hf 1 g l c (Or.inr rfl) (by rw [Joins.cell_of_block h3, e]; rfl)
  have h5 : (w.setCell ⟨M, 5, none⟩ v).cell? ⟨M, 5, none⟩ = some v := by
    have hbb : (w.setCell ⟨M, 5, none⟩ v).heap[M]? = _ := Joins.block_setCell h3 _
    rw [Joins.cell_of_block hbb]; rfl
  have hh : w.ownsRow base 62 2 v A.length (cellsQ A) := hv
  rcases hh.2 with ⟨rfl, h0⟩ | ⟨g, cap, cur, rfl, hb, _⟩
  · have : A = [] := List.eq_nil_of_length_eq_zero h0
    subst this
    exact ⟨_, _, rfl, ⟨RefN.void h, hfar, h5⟩, fun i p hi => by simp at hi⟩
  · obtain ⟨a, c, e, hP⟩ := hp
    injection e with e1 e2 e3
    subst e1
    exact ⟨_, _, rfl, ⟨RefN.own h hP (by omega), hfar, h5⟩, fun i p hi => ⟨g, 0, rfl, hb⟩⟩

/-- The six cells of a case as a block. -/
def CaseB (w : World) (C : Nat) (u v dg sd m : Int) (x : Value) : Prop := w.heap[C]? = some (.cells #[.int .u64 u, .int .u64 v, .int .i64 dg, .int .i64 sd, .int .i64 m, x] 27 (0, 0))
theorem CaseB.cells {w : World} {C : Nat} {u v dg sd m : Int} {x : Value} (h : CaseB w C u v dg sd m x) :
    w.cell? ⟨C, 0, none⟩ = some (.int .u64 u) ∧ w.cell? ⟨C, 1, none⟩ = some (.int .u64 v) ∧ w.cell? ⟨C, 2, none⟩ = some (.int .i64 dg) ∧ w.cell? ⟨C, 3, none⟩ = some (.int .i64 sd) ∧ w.cell? ⟨C, 4, none⟩ = some (.int .i64 m) ∧ w.cell? ⟨C, 5, none⟩ = some x := by
  have h : w.heap[C]? = some (.cells #[.int .u64 u, .int .u64 v, .int .i64 dg, .int .i64 sd, .int .i64 m, x] 27 (0, 0)) := h
  exact ⟨by rw [Joins.cell_of_block h]; rfl, by rw [Joins.cell_of_block h]; rfl, by rw [Joins.cell_of_block h]; rfl, by rw [Joins.cell_of_block h]; rfl, by rw [Joins.cell_of_block h]; rfl, by rw [Joins.cell_of_block h]; rfl⟩
theorem CaseB.call {w w' : World} {C : Nat} {u v dg sd m : Int} {x : Value} (h : CaseB w C u v dg sd m x) (hb : Below w.heap.size w w') : CaseB w' C u v dg sd m x := (hb.block C (lt_of_block h)).trans h
theorem side_inj {s s' : Bool} (h : sideI s = sideI s') : s = s' := by cases s <;> cases s' <;> first | rfl | (exfalso; revert h; decide)

set_option maxRecDepth 100000 in
set_option maxHeartbeats 8000000 in
theorem bins_merges_walk {Bn : BnT} (D : BinsDoes Bn) (w : World) (u v dg sd m : Int) (A : List PairV) (a : Option Addr) (cap : Nat) (a2 : Option Addr) (cap2 : Nat) (A2 : List PairV) (mo : Int) (wu : Word u) (wv : Word v) (wd : I64 dg) (ws : I64 sd) (wm : I64 m) (hl : A.length ≤ 140737488351232) (hA2 : Pairs w a2 A2) (hl2 : A2.length ≤ 140737488351232) (wmo : I64 mo) (hA : Pairs w a A) (ht : Tens w) :
    Calls Tryz.prog 6 #[.agg #[.int .u64 u, .int .u64 v, .int .i64 dg, .int .i64 sd, .int .i64 m, .slice a A.length cap], .slice a2 A2.length cap2, .int .i64 mo] w fun e w' => e = .returned (.bool true) ∧ Below w.heap.size w w' := by
  have HD := Lib.hid D
  have BC := ((Below.refl w.heap.size w).alloc (Nat.le_refl _) (.cells #[.int .u64 u, .int .u64 v, .int .i64 dg, .int .i64 sd, .int .i64 m, .slice a A.length cap] 27))
  have hcs : CaseB (w.alloc (.cells #[.int .u64 u, .int .u64 v, .int .i64 dg, .int .i64 sd, .int .i64 m, .slice a A.length cap] 27)) w.heap.size u v dg sd m (.slice a A.length cap) := heap_new _ _
  have HTN := Lib.hid (ht.call BC)
  have ht0 := Lib.hid ht
  have HA := Lib.hid hA
  have HA2 := Lib.hid hA2
  have HB1 := Lib.hid (fun W hW hp => build13_any D W u v dg sd m A a cap hW wu wv wd ws wm hp hl)
  have HB2 := Lib.hid (fun W hW hp => build13_far D W u v dg sd m A2 a2 cap2 hW wu wv wd ws wm hp hl2)
  have HB3 : Hid (∀ W, Tens W → Calls Tryz.prog 20 #[.agg #[.int .u64 u, .int .u64 v, .int .i64 dg, .int .i64 sd, .int .i64 mo, .slice none 0 0]] W (BuildN Bn W u v dg sd mo [] none 0)) := Lib.hid (fun W hW => build13_any D W u v dg sd mo [] none 0 hW wu wv wd ws wmo ⟨fun p h => (by cases h), fun i p h => by simp at h⟩ (by decide))
  have HW := Lib.hid (show Word u ∧ Word v ∧ I64 m from ⟨wu, wv, wm⟩)
  have hsz : (w.alloc (.cells #[.int .u64 u, .int .u64 v, .int .i64 dg, .int .i64 sd, .int .i64 m, .slice a A.length cap] 27)).heap.size = w.heap.size + 1 := by simp
  obtain ⟨ln, hln⟩ : ∃ ln : Nat, A.length = ln := ⟨_, rfl⟩
  obtain ⟨ln2, hln2⟩ : ∃ ln2 : Nat, A2.length = ln2 := ⟨_, rfl⟩
  have HLN := Lib.hid hln
  have HLN2 := Lib.hid hln2
  rw [hln] at hcs HB1 BC hsz HTN ⊢
  rw [hln2] at HB2 ⊢
  clear ht hA hA2 hl hl2 D hln hln2
  go_enter Tryz.func6, Tryz.ntmps6
  go_wp2_with fail
  generalize (w.alloc (.cells #[.int .u64 u, .int .u64 v, .int .i64 dg, .int .i64 sd, .int .i64 m, .slice a ln cap] 27)) = wC at *
  refine (alive13_any HD.out wC HTN.out).mono ?_
  rintro e w2 ⟨rfl, hb2⟩
  have b2 := BC.trans (hb2.mono (by omega))
  have hz2 : w.heap.size + 1 ≤ w2.heap.size := by have := hb2.size; omega
  have HC2 := Lib.hid (hcs.call hb2)
  have HT2 := Lib.hid (HTN.out.call hb2)
  obtain ⟨p0, p1, p2, p3, p4, p5⟩ := HC2.out.cells
  have hDb : CaseB (w2.alloc (.cells #[.int .u64 u, .int .u64 v, .int .i64 dg, .int .i64 sd, .int .i64 m, .slice a2 ln2 cap2] 27)) w2.heap.size u v dg sd m (.slice a2 ln2 cap2) := heap_new _ _
  have hb3 : Below w2.heap.size w2 (w2.alloc (.cells #[.int .u64 u, .int .u64 v, .int .i64 dg, .int .i64 sd, .int .i64 m, .slice a2 ln2 cap2] 27)) := (Below.refl _ _).alloc (Nat.le_refl _) _
  have hsz3 : (w2.alloc (.cells #[.int .u64 u, .int .u64 v, .int .i64 dg, .int .i64 sd, .int .i64 m, .slice a2 ln2 cap2] 27)).heap.size = w2.heap.size + 1 := by simp
  have HDB := Lib.hid hDb
  have HB3' := Lib.hid hb3
  clear hcs hb2 hDb hb3
  have HC3 := Lib.hid (HC2.out.call HB3'.out)
  obtain ⟨r0, r1, r2, r3, r4, r5⟩ := HC3.out.cells
  go_wp2_with fail
  generalize (w2.alloc (.cells #[.int .u64 u, .int .u64 v, .int .i64 dg, .int .i64 sd, .int .i64 m, .slice a2 ln2 cap2] 27)) = w3 at *
  have b3 := b2.trans (HB3'.out.mono (by omega))
  have HT3 := Lib.hid (HT2.out.call HB3'.out)
  clear p0 p1 p2 p3 p4 p5 HC2 HT2
  refine (HB1.out w3 HT3.out (HA.out.call b3)).mono ?_
  rintro e w4 (⟨B, S, R, M, P, s, n, rfl, hsi, hP, hof, m1, m2, hf, hl, hbn, _, hsr, hn1, hn2, d0, d4, hb4, _, _⟩ | ⟨rfl, hb4⟩)
  case inr =>
    have b4 := b3.trans (hb4.mono b3.size)
    obtain ⟨q0, q1, q2, q3, q4, q5⟩ := (HDB.out.call hb4).cells
    have HT4 := Lib.hid (HT3.out.call hb4)
    go_wp2_with fail
    refine (HB2.out w4 HT4.out (HA2.out.call b4)).mono ?_
    rintro e w5 (⟨B', S', R', M', P', s', n', rfl, _, _, _, _, _, _, _, _, _, _, _, _, _, _, hb5, _, _, _⟩ | ⟨rfl, hb5⟩)
    all_goals
      have b5 := b4.trans (hb5.mono b4.size)
      go_wp2_with fail
      go_ret
      exact ⟨rfl, b5⟩
  have b4 := b3.trans (hb4.mono b3.size)
  have HDB4 := Lib.hid (HDB.out.call hb4)
  have HC4 := Lib.hid (HC3.out.call hb4)
  obtain ⟨q0, q1, q2, q3, q4, q5⟩ := HDB4.out.cells
  have HT4 := Lib.hid (HT3.out.call hb4)
  have HP := Lib.hid hP
  have HOF := Lib.hid hof
  have HF := Lib.hid hf
  have HBN := Lib.hid hbn
  have HSR := Lib.hid hsr
  have HSI := Lib.hid hsi
  have hz4 := hb4.size
  clear hP hof hf hbn hsr hsi hb4 r0 r1 r2 r3 r4 r5 HDB HC3 HT3 HB1
  go_wp2_with fail
  refine (HB2.out w4 HT4.out (HA2.out.call b4)).mono ?_
  rintro e w5 (⟨B', S', R', M', P', s', n', rfl, hsi', hP', hof', _, _, hf2, hl2, hbn', hrk', hsr', hn1', hn2', _, _, hb5, hfar, hv5, hM'⟩ | ⟨rfl, hb5⟩)
  case inr =>
    have b5 := b4.trans (hb5.mono b4.size)
    go_wp2_with fail
    go_ret
    exact ⟨rfl, b5⟩
  obtain rfl : P' = P := pt_one hP' HP.out hof' HOF.out
  obtain rfl : s' = s := side_inj (hsi'.trans HSI.out.symm)
  have b5 := b4.trans (hb5.mono b4.size)
  have HDB5 := Lib.hid (HDB4.out.call hb5)
  have HDB5' := Lib.hid (HDB4.out.call hb5)
  have HC5 := Lib.hid (HC4.out.call hb5)
  obtain ⟨r0, r1, r2, r3, r4, r5⟩ := HC5.out.cells
  have HT5 := Lib.hid (HT4.out.call hb5)
  have HBN5 := Lib.hid (HD.out.call HBN.out hb5)
  have HLT := Lib.hid (HD.out.lt _ _ _ _ _ _ _ _ HBN.out)
  have HF2 := Lib.hid hf2
  have HBN' := Lib.hid hbn'
  have HRK' := Lib.hid hrk'
  have HSR' := Lib.hid hsr'
  have HFAR := Lib.hid hfar
  have HV5 := Lib.hid hv5
  have hz5 := hb5.size
  clear hP' hof' hf2 hbn' hrk' hsr' hfar hv5 hb5 hsi' q0 q1 q2 q3 q4 q5 HDB4 HC4 HT4 HB2 HBN
  have HRN := Lib.hid (rnew13_any u v dg s' m HW.out.1 HW.out.2.1 d0 d4 HW.out.2.2 w5)
  rw [HSI.out] at HRN
  go_wp2_with fail
  refine HRN.out.mono ?_
  rintro e w6 (⟨M2, P2, hP2, hof2, rfl, hrn2, hM2, hb6, hfar2⟩ | ⟨hno, rfl, hb6⟩)
  case inr => exact absurd HOF.out (fun h => pt_none HP.out h hno)
  obtain rfl : P2 = P' := pt_one hP2 HP.out hof2 HOF.out
  have b6 := b5.trans (hb6.mono b5.size)
  have hz6 := hb6.size
  have HM2lt : Hid (M2 < w6.heap.size) := Lib.hid hrn2.lt
  have HDB6 := Lib.hid (HDB5.out.call hb6)
  have HC6 := Lib.hid (HC5.out.call hb6)
  have HT6 := Lib.hid (HT5.out.call hb6)
  have HR2 := Lib.hid hrn2
  have HFAR2 := Lib.hid hfar2
  clear hfar2
  have HB6 := Lib.hid hb6
  have HLT' := Lib.hid (HD.out.lt _ _ _ _ _ _ _ _ HBN'.out)
  clear hP2 hof2 hrn2 hb6 r0 r1 r2 r3 r4 r5 HDB5 HC5 HT5 HRN
  have hO6 := World.ownsRow_made (base := w6.heap.size) (e := 62) (size := 2) w6 #[] 0 (by simp) (by decide) rfl
  have HO6 : Hid (OwnV (w6.alloc (.cells #[] 62)) w6.heap.size (.slice (some ⟨w6.heap.size, 0, none⟩) 0 0) []) := Lib.hid hO6
  have HB7 : Hid (Below w6.heap.size w6 (w6.alloc (.cells #[] 62))) := Lib.hid ((Below.refl _ _).alloc (Nat.le_refl _) _)
  have HP7 : Hid (Pairs (w6.alloc (.cells #[] 62)) a A) := Lib.hid (HA.out.call (b6.trans (HB7.out.mono b6.size)))
  have HC7 := Lib.hid (HC6.out.call HB7.out)
  obtain ⟨q0, q1, q2, q3, q4, q5⟩ := HC7.out.cells
  have HLEN : Hid (A.length = ln ∧ A2.length = ln2) := Lib.hid ⟨HLN.out, HLN2.out⟩
  clear hO6
  rw [← HLN.out]
  rw [← HLN.out] at q5
  go_wp2_with (at_builtin; refine wpList_append_vals rfl (.tmp 55) (.tmp 57) rfl w6.heap.size _ [] a cap A rfl HO6.out rfl HP7.out ?c1 ?c2 ?_)
  case c1 => simp; omega
  case c2 => exact HB7.out.size
  intro v7 w7 hown7' hg7
  have hown7 : OwnV w7 w6.heap.size v7 A := hown7'
  clear hown7'
  have hb7 : Below w6.heap.size w6 w7 := HB7.out.grown hg7 HB7.out.size (fun k hk => by cases hk; exact Nat.le_refl _)
  obtain ⟨A7, k7, rfl⟩ := hown7.form
  have HO7 := Lib.hid hown7
  have HB8 := Lib.hid hb7
  have HP8 := Lib.hid (HA2.out.call (b6.trans (hb7.mono b6.size)))
  clear hown7 hg7 hb7 HO6 HP7 HB7 HC7 q0 q1 q2 q3 q4 q5
  rw [← HLN2.out]
  go_wp2_with (at_builtin; refine wpList_append_vals rfl (.tmp 58) (.tmp 59) rfl w6.heap.size _ A a2 cap2 A2 rfl HO7.out rfl HP8.out ?d1 ?d2 ?_)
  case d1 => omega
  case d2 => exact HB8.out.size
  intro v9 w9 hown9 hg9
  have hb9 : Below w6.heap.size w6 w9 := OwnV.below HO7.out HB8.out hg9 HB8.out.size
  have hokk : ∀ p, p ∈ A ++ A2 → okP p := fun p hp => by
    rcases List.mem_append.1 hp with h | h
    · exact HA.out.ok p h
    · exact HA2.out.ok p h
  obtain ⟨a9, k9, rfl, hS9, hblk9⟩ := RefN.ownv (HR2.out.call hb9) (far_same HFAR2.out (hb9.block M2 HM2lt.out)) hown9 hokk HM2lt.out
  have b9 := b6.trans (hb9.mono b6.size)
  have hD9 := HDB6.out.call hb9
  have hC9 := HC6.out.call hb9
  have hM2D : M2 ≠ w2.heap.size := by omega
  have hM2C : M2 ≠ w.heap.size := by omega
  obtain ⟨_, _, _, _, _, h39⟩ := (HR2.out.call hb9).ex
  have f5 : w9.frozen? ⟨M2, 5, none⟩ = false := Joins.unfrozen_of_block h39.2.2 5
  have c5 : ∃ x, w9.cell? ⟨M2, 5, none⟩ = some x := ⟨_, by rw [Joins.cell_of_block h39.2.2]; rfl⟩
  obtain ⟨x5, c5⟩ := c5
  obtain ⟨n9, hn9⟩ : ∃ n9 : Nat, (A ++ A2).length = n9 := ⟨_, rfl⟩
  rw [hn9] at hS9 ⊢
  obtain ⟨wS, hwS⟩ : ∃ wS, w9.setCell ⟨M2, 5, none⟩ (.slice a9 n9 k9) = wS := ⟨_, rfl⟩
  have hoS : ∀ k, k ≠ M2 → wS.heap[k]? = w9.heap[k]? := fun k hk => by rw [← hwS]; exact Below.heap_setCell w9 _ _ k hk
  have hzS : wS.heap.size = w9.heap.size := by rw [← hwS]; simp [World.setCell]
  have hDS : CaseB wS w2.heap.size u v dg sd m (.slice a2 ln2 cap2) := (hoS _ (fun e => hM2D e.symm)).trans hD9
  have hCS : CaseB wS w.heap.size u v dg sd m (.slice a ln cap) := (hoS _ (fun e => hM2C e.symm)).trans hC9
  have cS := hDS.cells.2.2.2.2.2
  have fS : wS.frozen? ⟨w2.heap.size, 5, none⟩ = false := Joins.unfrozen_of_block hDS 5
  obtain ⟨wT, hwT⟩ : ∃ wT, wS.setCell ⟨w2.heap.size, 5, none⟩ (.slice none 0 0) = wT := ⟨_, rfl⟩
  have hoT : ∀ k, k ≠ w2.heap.size → wT.heap[k]? = wS.heap[k]? := fun k hk => by rw [← hwT]; exact Below.heap_setCell wS _ _ k hk
  have hzT : wT.heap.size = wS.heap.size := by rw [← hwT]; simp [World.setCell]
  have hDT : CaseB wT w2.heap.size u v dg sd m (.slice none 0 0) := by rw [← hwT]; exact set_cells11 hDS 5 _
  have cT := hDT.cells.2.2.2.2.1
  have fT : wT.frozen? ⟨w2.heap.size, 4, none⟩ = false := Joins.unfrozen_of_block hDT 4
  obtain ⟨wU, hwU⟩ : ∃ wU, wT.setCell ⟨w2.heap.size, 4, none⟩ (.int .i64 mo) = wU := ⟨_, rfl⟩
  have hoU : ∀ k, k ≠ w2.heap.size → wU.heap[k]? = wT.heap[k]? := fun k hk => by rw [← hwU]; exact Below.heap_setCell wT _ _ k hk
  have hzU : wU.heap.size = wT.heap.size := by rw [← hwU]; simp [World.setCell]
  have hDU : CaseB wU w2.heap.size u v dg sd mo (.slice none 0 0) := by rw [← hwU]; exact set_cells11 hDT 4 _
  have hsame : ∀ k, k ≠ M2 → k ≠ w2.heap.size → wU.heap[k]? = w9.heap[k]? := fun k h1 h2 => ((hoU k h2).trans (hoT k h2)).trans (hoS k h1)
  have hCU : CaseB wU w.heap.size u v dg sd m (.slice a ln cap) := (hsame _ (fun e => hM2C e.symm) (by omega)).trans hC9
  have bU : Below w.heap.size w wU := by
    rw [← hwU, ← hwT, ← hwS]
    exact ((b9.setCell (p := ⟨M2, 5, none⟩) (by show w.heap.size ≤ M2; omega) _).setCell (p := ⟨w2.heap.size, 5, none⟩) (by show w.heap.size ≤ w2.heap.size; omega) _).setCell (p := ⟨w2.heap.size, 4, none⟩) (by show w.heap.size ≤ w2.heap.size; omega) _
  have hzU9 : wU.heap.size = w9.heap.size := by omega
  have hz9 := hb9.size
  have HBU : Hid (Bn wU B S R P2 s' m (stV P2 s' m A)) := Lib.hid (HD.out.keep _ _ _ _ _ _ _ _ _ (HD.out.call (HD.out.call HBN5.out HB6.out) hb9) fun k hk => by
    have h1 := HLT.out k hk
    have h2 := HSR.out k hk
    exact hsame k (by omega) (by omega))
  have HBU' : Hid (Bn wU B' S' R' P2 s' m (stV P2 s' m A2)) := Lib.hid (HD.out.keep _ _ _ _ _ _ _ _ _ (HD.out.call (HD.out.call HBN'.out HB6.out) hb9) fun k hk => by
    have h1 := HLT'.out k hk
    have h2 := HSR'.out k hk
    exact hsame k (by omega) (by omega))
  have hRM2 : RefG wU M2 w5.heap.size P2 s' m (A ++ A2) a9 k9 := RefG.skip (X := fun k => k = w2.heap.size) (by rw [← hwS, ← hn9]; rw [hn9]; exact hS9) (fun k hk => by omega) hM2D (fun i p hi => by
    obtain ⟨b, off, e, hb⟩ := hblk9 i p hi
    exact ⟨b, off, e, by omega⟩) (fun k _ hk => (hoU k hk).trans (hoT k hk)) (by omega)
  have hRM' : RefG wU M' w4.heap.size P2 s' m A2 a2 cap2 := by
    have g5 : RefG w5 M' w4.heap.size P2 s' m A2 a2 cap2 := ⟨HRK'.out.ref, HFAR.out, by have := HV5.out; exact this⟩
    have hMD : M' ≠ w2.heap.size := by omega
    refine RefG.skip (X := fun k => k = w2.heap.size) g5 (fun k hk => by omega) hMD (fun i p hi => ?_) (fun k hk hne => ?_) (by omega)
    · obtain ⟨b, off, e, hb, _⟩ := HA2.out.at_ i p hi
      exact ⟨b, off, e, by omega⟩
    · rw [hsame k (by omega) hne, hb9.block k (by omega), HB6.out.block k hk]
  obtain ⟨q0, q1, q2, q3, q4, q5⟩ := hDU.cells
  have HBLK := Lib.hid hblk9
  have HRM2 := Lib.hid hRM2
  have HRM' := Lib.hid hRM'
  have HCU := Lib.hid hCU
  have HDU := Lib.hid hDU
  have HTU : Hid (Tens wU) := Lib.hid (ht0.out.call bU)
  have HBU0 := Lib.hid bU
  clear hRM2 hRM' hCU hDU hsame hoS hoT hoU hDS hCS hDT hS9 hD9 hC9 hb9 hown9 hg9 hblk9 HO7 HB8 HP8 HR2 HFAR2 HFAR HV5 h39 hokk
  have HWS := Lib.hid hwS
  have HWT := Lib.hid hwT
  have HWU := Lib.hid hwU
  clear hwS hwT hwU hzS hzT q0 q1 q2 q3 q4 q5
  go_upto_region 11 with fail
  rw [HWS.out]
  go_upto_region 12 with fail
  rw [HWT.out]
  go_upto_region 13 with fail
  rw [HWU.out]
  clear HWS HWT HWU fS fT f5 cS cT c5
  obtain ⟨q0, q1, q2, q3, q4, q5⟩ := HDU.out.cells
  go_wp2_with fail
  refine (HB3.out wU HTU.out).mono ?_
  rintro e w11 (⟨B3, S3, R3, M3, P3, s3, n3, rfl, hsi3, _, _, _, _, _, _, hbn3, _, _, _, _, _, _, hb11, _, _⟩ | ⟨rfl, hb11⟩)
  · skip
    have bX := HBU0.out.trans (hb11.mono HBU0.out.size)
    have hC11 := HCU.out.call hb11
    obtain ⟨g0, g1, g2, g3, g4, g5⟩ := hC11.cells
    have HBX := Lib.hid (HD.out.call HBU.out hb11)
    have HBX' := Lib.hid (HD.out.call HBU'.out hb11)
    have HRX2 := Lib.hid (HRM2.out.call hb11)
    have HRX' := Lib.hid (HRM'.out.call hb11)
    have hz11 := hb11.size
    have HB3X := Lib.hid hbn3
    clear hbn3 hb11 hC11
    by_cases hmm : mo = m
    · have hmb : (mo == m) = true := by simp [hmm]
      skip
      have hpos := fine_app HF.out HF2.out
      have hfit := fine_fit hpos (by rw [List.length_append]; omega)
      have ha1 := stv_all HP.out s' m HF.out (by omega)
      have ha2 := stv_all HP.out s' m HF2.out (by omega)
      have hq1 := stv_len HP.out s' m HF.out (by omega)
      have hq2 := stv_len HP.out s' m HF2.out (by omega)
      have hap := stv_app HP.out s' (show 0 < m by omega) HF.out HF2.out (by omega)
      have hsum : (stV P2 s' m A).all + (stV P2 s' m A2).all ≤ 9223372036854775807 := by rw [ha1, ha2, ← sumP_app]; omega
      have HSUM := Lib.hid hsum
      have HAP := Lib.hid hap
      have HPOS := Lib.hid hpos
      have hl9 : (A ++ A2).length ≤ 120 := by rw [List.length_append]; omega
      have HL9 := Lib.hid hl9
      have HQ := Lib.hid (And.intro hq1 hq2)
      clear hpos hfit ha1 ha2 hq1 hq2 hap hsum hl9
      go_wp2_with fail
      refine (HD.out.like w11 B S R P2 s' m (stV P2 s' m A) B' S' R' P2 s' m (stV P2 s' m A2) true HBX.out HBX'.out (decide_eq_true ⟨rfl, rfl⟩)).mono ?_
      rintro e wY ⟨rfl, hbY⟩
      have HBY := Lib.hid (HD.out.call HBX.out hbY)
      have HBY' := Lib.hid (HD.out.call HBX'.out hbY)
      have HRY2 := Lib.hid (HRX2.out.call hbY)
      have HRY' := Lib.hid (HRX'.out.call hbY)
      have bY := bX.trans (hbY.mono bX.size)
      have hzY := hbY.size
      clear hbY
      go_wp2_with fail
      refine (HD.out.merge wY B S R P2 s' m (stV P2 s' m A) B' S' R' (stV P2 s' m A2) HBY.out HBY'.out (fun k hk => ⟨fun x => by have := HLT.out k (Or.inl hk); have := HSR'.out k (Or.inl x); omega, fun x => by have := HLT.out k (Or.inl hk); have := HSR'.out k (Or.inr x); omega⟩) (by have := HQ.out; omega) (by have := HQ.out; omega) (by have := HQ.out; omega) (by have := HQ.out; omega) HSUM.out).mono ?_
      rintro e wZ ⟨SZ, rfl, hbnZ, hkZ, hSZ⟩
      rw [← HAP.out] at hbnZ
      have bZ : Below w.heap.size w wZ := hkZ.below bY bY.size (fun i hi => by have := HSR.out i (Or.inl hi); omega)
      have HBZ := Lib.hid hbnZ
      have HBZ' := Lib.hid (HD.out.past HBY'.out hkZ (fun k hk x => by have := HLT.out k (Or.inl x); have := HSR'.out k hk; omega))
      have HRZ2 : Hid (RefG wZ M2 w5.heap.size P2 s' m (A ++ A2) a9 k9) := Lib.hid (RefG.skip (X := S) HRY2.out (fun k hk => by have := HLT.out k (Or.inl hk); omega) (fun x => by have := HLT.out _ (Or.inl x); omega) (fun i p hi => by
        obtain ⟨b, off, e, hb⟩ := HBLK.out i p hi
        exact ⟨b, off, e, fun x => by have := HLT.out _ (Or.inl x); omega⟩) (fun k hk hn => hkZ.block k hk hn) hkZ.size)
      have HRZ' : Hid (RefG wZ M' w4.heap.size P2 s' m A2 a2 cap2) := Lib.hid (RefG.skip (X := S) HRY'.out (fun k hk => HLT.out k (Or.inl hk)) (fun x => by have := HLT.out _ (Or.inl x); omega) (fun i p hi => by
        obtain ⟨b, off, e, hb, _⟩ := HA2.out.at_ i p hi
        exact ⟨b, off, e, fun x => by have := HSR.out _ (Or.inl x); omega⟩) (fun k hk hn => hkZ.block k hk hn) hkZ.size)
      clear hbnZ hkZ hSZ
      go_wp2_with fail
      refine (same13_any HD.out wZ B M2 SZ R P2 s' m (A ++ A2) HBZ.out HRZ2.out.ref HPOS.out (by have := HL9.out; omega) m1 m2).mono ?_
      rintro e wZ1 ⟨rfl, hb1⟩
      have bZ1 := bZ.trans (hb1.mono bZ.size)
      go_wp2_with fail
      refine (same13_any HD.out wZ1 B' M' S' R' P2 s' m A2 (HD.out.call HBZ'.out hb1) (HRZ'.out.call hb1).ref HF2.out (by omega) m1 m2).mono ?_
      rintro e wZ2 ⟨rfl, hb2z⟩
      have bZ2 := bZ1.trans (hb2z.mono bZ1.size)
      go_wp2_with fail
      go_ret
      exact ⟨rfl, bZ2⟩
    · have hmb : (mo == m) = false := by simp [hmm]
      go_wp2_with fail
      refine (HD.out.other w11 B S R P2 s' m _ B3 S3 R3 P3 s3 mo _ HBX.out HB3X.out (Or.inr (fun e => hmm e.symm))).mono ?_
      rintro e w12 ⟨rfl, hb12⟩
      go_wp2_with fail
      refine (HD.out.like w12 B S R P2 s' m _ B3 S3 R3 P3 s3 mo _ false (HD.out.call HBX.out hb12) (HD.out.call HB3X.out hb12) (decide_eq_false (fun e => hmm e.2.symm))).mono ?_
      rintro e w13 ⟨rfl, hb13⟩
      have HBX := Lib.hid (HD.out.call (HD.out.call HBX.out hb12) hb13)
      have HBX' := Lib.hid (HD.out.call (HD.out.call HBX'.out hb12) hb13)
      have HRX2 := Lib.hid ((HRX2.out.call hb12).call hb13)
      have HRX' := Lib.hid ((HRX'.out.call hb12).call hb13)
      have bX := (bX.trans (hb12.mono bX.size)).trans (hb13.mono (by have := hb12.size; have := bX.size; omega))
      have hz13 : w11.heap.size ≤ w13.heap.size := by have := hb12.size; have := hb13.size; omega
      clear hb12 hb13
      have hpos := fine_app HF.out HF2.out
      have hfit := fine_fit hpos (by rw [List.length_append]; omega)
      have ha1 := stv_all HP.out s' m HF.out (by omega)
      have ha2 := stv_all HP.out s' m HF2.out (by omega)
      have hq1 := stv_len HP.out s' m HF.out (by omega)
      have hq2 := stv_len HP.out s' m HF2.out (by omega)
      have hap := stv_app HP.out s' (show 0 < m by omega) HF.out HF2.out (by omega)
      have hsum : (stV P2 s' m A).all + (stV P2 s' m A2).all ≤ 9223372036854775807 := by rw [ha1, ha2, ← sumP_app]; omega
      have HSUM := Lib.hid hsum
      have HAP := Lib.hid hap
      have HPOS := Lib.hid hpos
      have hl9 : (A ++ A2).length ≤ 120 := by rw [List.length_append]; omega
      have HL9 := Lib.hid hl9
      have HQ := Lib.hid (And.intro hq1 hq2)
      clear hpos hfit ha1 ha2 hq1 hq2 hap hsum hl9
      go_wp2_with fail
      refine (HD.out.like w13 B S R P2 s' m (stV P2 s' m A) B' S' R' P2 s' m (stV P2 s' m A2) true HBX.out HBX'.out (decide_eq_true ⟨rfl, rfl⟩)).mono ?_
      rintro e wY ⟨rfl, hbY⟩
      have HBY := Lib.hid (HD.out.call HBX.out hbY)
      have HBY' := Lib.hid (HD.out.call HBX'.out hbY)
      have HRY2 := Lib.hid (HRX2.out.call hbY)
      have HRY' := Lib.hid (HRX'.out.call hbY)
      have bY := bX.trans (hbY.mono bX.size)
      have hzY := hbY.size
      clear hbY
      go_wp2_with fail
      refine (HD.out.merge wY B S R P2 s' m (stV P2 s' m A) B' S' R' (stV P2 s' m A2) HBY.out HBY'.out (fun k hk => ⟨fun x => by have := HLT.out k (Or.inl hk); have := HSR'.out k (Or.inl x); omega, fun x => by have := HLT.out k (Or.inl hk); have := HSR'.out k (Or.inr x); omega⟩) (by have := HQ.out; omega) (by have := HQ.out; omega) (by have := HQ.out; omega) (by have := HQ.out; omega) HSUM.out).mono ?_
      rintro e wZ ⟨SZ, rfl, hbnZ, hkZ, hSZ⟩
      rw [← HAP.out] at hbnZ
      have bZ : Below w.heap.size w wZ := hkZ.below bY bY.size (fun i hi => by have := HSR.out i (Or.inl hi); omega)
      have HBZ := Lib.hid hbnZ
      have HBZ' := Lib.hid (HD.out.past HBY'.out hkZ (fun k hk x => by have := HLT.out k (Or.inl x); have := HSR'.out k hk; omega))
      have HRZ2 : Hid (RefG wZ M2 w5.heap.size P2 s' m (A ++ A2) a9 k9) := Lib.hid (RefG.skip (X := S) HRY2.out (fun k hk => by have := HLT.out k (Or.inl hk); omega) (fun x => by have := HLT.out _ (Or.inl x); omega) (fun i p hi => by
        obtain ⟨b, off, e, hb⟩ := HBLK.out i p hi
        exact ⟨b, off, e, fun x => by have := HLT.out _ (Or.inl x); omega⟩) (fun k hk hn => hkZ.block k hk hn) hkZ.size)
      have HRZ' : Hid (RefG wZ M' w4.heap.size P2 s' m A2 a2 cap2) := Lib.hid (RefG.skip (X := S) HRY'.out (fun k hk => HLT.out k (Or.inl hk)) (fun x => by have := HLT.out _ (Or.inl x); omega) (fun i p hi => by
        obtain ⟨b, off, e, hb, _⟩ := HA2.out.at_ i p hi
        exact ⟨b, off, e, fun x => by have := HSR.out _ (Or.inl x); omega⟩) (fun k hk hn => hkZ.block k hk hn) hkZ.size)
      clear hbnZ hkZ hSZ
      go_wp2_with fail
      refine (same13_any HD.out wZ B M2 SZ R P2 s' m (A ++ A2) HBZ.out HRZ2.out.ref HPOS.out (by have := HL9.out; omega) m1 m2).mono ?_
      rintro e wZ1 ⟨rfl, hb1⟩
      have bZ1 := bZ.trans (hb1.mono bZ.size)
      go_wp2_with fail
      refine (same13_any HD.out wZ1 B' M' S' R' P2 s' m A2 (HD.out.call HBZ'.out hb1) (HRZ'.out.call hb1).ref HF2.out (by omega) m1 m2).mono ?_
      rintro e wZ2 ⟨rfl, hb2z⟩
      have bZ2 := bZ1.trans (hb2z.mono bZ1.size)
      go_wp2_with fail
      go_ret
      exact ⟨rfl, bZ2⟩
  · skip
    have bX := HBU0.out.trans (hb11.mono HBU0.out.size)
    have hC11 := HCU.out.call hb11
    obtain ⟨g0, g1, g2, g3, g4, g5⟩ := hC11.cells
    have HBX := Lib.hid (HD.out.call HBU.out hb11)
    have HBX' := Lib.hid (HD.out.call HBU'.out hb11)
    have HRX2 := Lib.hid (HRM2.out.call hb11)
    have HRX' := Lib.hid (HRM'.out.call hb11)
    have hz11 := hb11.size
    clear hb11 hC11
    have hpos := fine_app HF.out HF2.out
    have hfit := fine_fit hpos (by rw [List.length_append]; omega)
    have ha1 := stv_all HP.out s' m HF.out (by omega)
    have ha2 := stv_all HP.out s' m HF2.out (by omega)
    have hq1 := stv_len HP.out s' m HF.out (by omega)
    have hq2 := stv_len HP.out s' m HF2.out (by omega)
    have hap := stv_app HP.out s' (show 0 < m by omega) HF.out HF2.out (by omega)
    have hsum : (stV P2 s' m A).all + (stV P2 s' m A2).all ≤ 9223372036854775807 := by rw [ha1, ha2, ← sumP_app]; omega
    have HSUM := Lib.hid hsum
    have HAP := Lib.hid hap
    have HPOS := Lib.hid hpos
    have hl9 : (A ++ A2).length ≤ 120 := by rw [List.length_append]; omega
    have HL9 := Lib.hid hl9
    have HQ := Lib.hid (And.intro hq1 hq2)
    clear hpos hfit ha1 ha2 hq1 hq2 hap hsum hl9
    go_wp2_with fail
    refine (HD.out.like w11 B S R P2 s' m (stV P2 s' m A) B' S' R' P2 s' m (stV P2 s' m A2) true HBX.out HBX'.out (decide_eq_true ⟨rfl, rfl⟩)).mono ?_
    rintro e wY ⟨rfl, hbY⟩
    have HBY := Lib.hid (HD.out.call HBX.out hbY)
    have HBY' := Lib.hid (HD.out.call HBX'.out hbY)
    have HRY2 := Lib.hid (HRX2.out.call hbY)
    have HRY' := Lib.hid (HRX'.out.call hbY)
    have bY := bX.trans (hbY.mono bX.size)
    have hzY := hbY.size
    clear hbY
    go_wp2_with fail
    refine (HD.out.merge wY B S R P2 s' m (stV P2 s' m A) B' S' R' (stV P2 s' m A2) HBY.out HBY'.out (fun k hk => ⟨fun x => by have := HLT.out k (Or.inl hk); have := HSR'.out k (Or.inl x); omega, fun x => by have := HLT.out k (Or.inl hk); have := HSR'.out k (Or.inr x); omega⟩) (by have := HQ.out; omega) (by have := HQ.out; omega) (by have := HQ.out; omega) (by have := HQ.out; omega) HSUM.out).mono ?_
    rintro e wZ ⟨SZ, rfl, hbnZ, hkZ, hSZ⟩
    rw [← HAP.out] at hbnZ
    have bZ : Below w.heap.size w wZ := hkZ.below bY bY.size (fun i hi => by have := HSR.out i (Or.inl hi); omega)
    have HBZ := Lib.hid hbnZ
    have HBZ' := Lib.hid (HD.out.past HBY'.out hkZ (fun k hk x => by have := HLT.out k (Or.inl x); have := HSR'.out k hk; omega))
    have HRZ2 : Hid (RefG wZ M2 w5.heap.size P2 s' m (A ++ A2) a9 k9) := Lib.hid (RefG.skip (X := S) HRY2.out (fun k hk => by have := HLT.out k (Or.inl hk); omega) (fun x => by have := HLT.out _ (Or.inl x); omega) (fun i p hi => by
      obtain ⟨b, off, e, hb⟩ := HBLK.out i p hi
      exact ⟨b, off, e, fun x => by have := HLT.out _ (Or.inl x); omega⟩) (fun k hk hn => hkZ.block k hk hn) hkZ.size)
    have HRZ' : Hid (RefG wZ M' w4.heap.size P2 s' m A2 a2 cap2) := Lib.hid (RefG.skip (X := S) HRY'.out (fun k hk => HLT.out k (Or.inl hk)) (fun x => by have := HLT.out _ (Or.inl x); omega) (fun i p hi => by
      obtain ⟨b, off, e, hb, _⟩ := HA2.out.at_ i p hi
      exact ⟨b, off, e, fun x => by have := HSR.out _ (Or.inl x); omega⟩) (fun k hk hn => hkZ.block k hk hn) hkZ.size)
    clear hbnZ hkZ hSZ
    go_wp2_with fail
    refine (same13_any HD.out wZ B M2 SZ R P2 s' m (A ++ A2) HBZ.out HRZ2.out.ref HPOS.out (by have := HL9.out; omega) m1 m2).mono ?_
    rintro e wZ1 ⟨rfl, hb1⟩
    have bZ1 := bZ.trans (hb1.mono bZ.size)
    go_wp2_with fail
    refine (same13_any HD.out wZ1 B' M' S' R' P2 s' m A2 (HD.out.call HBZ'.out hb1) (HRZ'.out.call hb1).ref HF2.out (by omega) m1 m2).mono ?_
    rintro e wZ2 ⟨rfl, hb2z⟩
    have bZ2 := bZ1.trans (hb2z.mono bZ1.size)
    go_wp2_with fail
    go_ret
    exact ⟨rfl, bZ2⟩
end Go.Proofs.YtdnmeninglfhlaaGreatDoor
