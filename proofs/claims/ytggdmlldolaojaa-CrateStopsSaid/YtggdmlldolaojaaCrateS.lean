/-
  The law CrateStops, walked.
-/
import Derived.Test.YtggdmlldolaojaaCrateD
namespace Go.Proofs.Ytggdmlldolaojaa
set_option linter.unusedVariables false
set_option linter.unusedSimpArgs false
open Go.RowKit Go.Shelf
attribute [local go_sem] Oper.semAt_some

/-- A block of one cell that may be written. -/
structure Uno (w : World) (B : Nat) (x : Value) : Prop where
  c : w.cell? ⟨B, 0, none⟩ = some x
  f : w.frozen? ⟨B, 0, none⟩ = false
theorem Uno.lt {w : World} {B : Nat} {x : Value} (h : Uno w B x) : B < w.heap.size := World.block_lt_of_cell? (a := ⟨B, 0, none⟩) w h.c
theorem Uno.call {w w' : World} {B : Nat} {x : Value} (h : Uno w B x) (hb : Below w.heap.size w w') : Uno w' B x :=
  ⟨cell_later hb h.c, ((bcell hb).2 _ _ h.lt).trans h.f⟩
theorem Uno.alloc {w : World} {B : Nat} {x : Value} (h : Uno w B x) (o : Obj) : Uno (w.alloc o) B x :=
  h.call ((Below.refl _ _).alloc (Nat.le_refl _) _)
theorem Uno.new (w : World) (x : Value) (t : TypeId) : Uno (w.alloc (.cells #[x] t)) w.heap.size x := ⟨by go_simp, by go_simp⟩
theorem Uno.put {w : World} {B : Nat} {x : Value} (h : Uno w B x) (y : Value) : Uno (w.setCell ⟨B, 0, none⟩ y) B y :=
  ⟨World.cell?_setCell_same _ _ _ h.c, by rw [World.frozen?_setCell]; exact h.f⟩
theorem Uno.past {w : World} {B B' : Nat} {x : Value} (h : Uno w B x) (hB : B' ≠ B) (y : Value) : Uno (w.setCell ⟨B', 0, none⟩ y) B x :=
  ⟨by rw [World.cell?_setCell_other _ _ _ _ (two_far hB)]; exact h.c, by rw [World.frozen?_setCell]; exact h.f⟩
theorem Uno.own {β : Type} (B : Nat) (f : β → Value) : Own (fun s W => Uno W B (f s)) := fun s A B' row hs hg hr =>
  ⟨cell_kept hs.c hg hr, (frozen_kept hs.c hg hr).trans hs.f⟩

theorem pairs_past {w : World} {A : Option Addr} {L : List PairV} {K : Nat} (h : Pairs w A L) (hK : ∀ b off, A = some ⟨b, off, none⟩ → L ≠ [] → b ≠ K) (v : Value) : Pairs (w.setCell ⟨K, 0, none⟩ v) A L :=
  ⟨h.ok, fun i p hi => by
    obtain ⟨b, off, hA, hlt, c0, c1⟩ := h.at_ i p hi
    have hne : K ≠ b := fun e => hK b off hA (fun e2 => by subst e2; simp at hi) e.symm
    exact ⟨b, off, hA, by simpa [World.setCell] using hlt, by rw [World.cell?_setCell_other _ _ _ _ (two_far hne)]; exact c0, by rw [World.cell?_setCell_other _ _ _ _ (two_far hne)]; exact c1⟩⟩
theorem Pairs.own {w w' : World} {A : Option Addr} {L : List PairV} {row : Option Nat} (h : Pairs w A L) (hg : w.grownBy w' row) (hr : ∀ r, row = some r → ∃ o : Obj, w.heap[r]? = some o ∧ o.isCells = false) : Pairs w' A L :=
  ⟨h.ok, fun i p hi => by
    obtain ⟨b, off, hA, hlt, c0, c1⟩ := h.at_ i p hi
    exact ⟨b, off, hA, Nat.lt_of_lt_of_le hlt hg.size, cell_kept c0 hg hr, cell_kept c1 hg hr⟩⟩

set_option maxRecDepth 1000000 in
set_option maxHeartbeats 4000000 in
theorem cstops_in {Cr : World → Nat → (Nat → Prop) → List PairV → Prop} (D : CrateDoes Cr) (AL : CrateAll Cr) (w : World) (A : Option Addr) (cap : Nat) (L : List PairV) (stop : Int) (h : Pairs w A L) (hll : L.length ≤ 100) (hi : I64 stop) :
    CallsIn Fence.wide 8 Try.prog 6 #[.slice A L.length cap, .int .i64 stop] w fun e w' => e = .returned (.bool true) ∧ Below w.heap.size w w' := by
  have HD := Lib.hid D
  have HAL := Lib.hid AL
  have HP := Lib.hid h
  obtain ⟨i0, i1⟩ := hi
  clear D AL h
  have q0 : ¬ (100 : Int) < L.length := by omega
  obtain ⟨wz, hwz⟩ : ∃ wz, (w.alloc (.cells #[.int .i64 stop] 3)).alloc (.cells #[.bool false] 4) = wz := ⟨_, rfl⟩
  have bz : Below w.heap.size w wz := by rw [← hwz]; exact ((Below.refl _ _).alloc (Nat.le_refl _) _).alloc (by simp) _
  have uz : Uno wz w.heap.size (.int .i64 stop) := by rw [← hwz]; exact (Uno.new w _ _).alloc _
  have vz : Uno wz (w.heap.size + 1) (.bool false) := by
    have := Uno.new (w.alloc (.cells #[.int .i64 stop] 3)) (.bool false) 4
    rw [World.size_alloc] at this
    rw [← hwz]; exact this
  have zz : wz.heap.size = w.heap.size + 2 := by rw [← hwz]; simp
  have HPZ := Lib.hid (HP.out.call bz)
  have HZZ := Lib.hid zz
  have HUZ := Lib.hid uz
  have HVZ := Lib.hid vz
  have HBZ := Lib.hid bz
  clear bz uz vz zz
  refine callsIn_of_wp_marks Try.func6 rfl trivial ?_ rfl
  refine wpIn_wide.2 ?_
  simp only [Try.ntmps6, List.size_toArray, List.length_cons, List.length_nil, Nat.reduceAdd, Nat.reduceSub, Array.replicate_succ, Array.replicate_zero, List.push_toArray, List.append_toArray, List.nil_append, List.cons_append]
  go_wp2_with fail
  clear hwz
  refine (calive_any HD.out _).mono ?_
  rintro e w0 ⟨rfl, b0⟩
  have z0 := b0.size
  go_wp2_with fail
  refine (HD.out.new _).mono ?_
  rintro e w1 ⟨B, S, rfl, h1, hs1, b1⟩
  have hb1 := b0.trans (b1.mono z0)
  have HC0 := Lib.hid h1
  have HS1 : Hid (∀ k, S k → wz.heap.size ≤ k) := Lib.hid fun k hk => Nat.le_trans z0 (hs1 k hk)
  clear b1 hs1 h1
  go_wp2_with fail
  go_loopw [20] (fun j wr => ∃ (k : Nat) (S' : Nat → Prop) (R : List PairV), k ≤ L.length ∧ j = .int .i64 k ∧ Cr wr B S' R ∧ R.length ≤ k ∧ (∀ x, S' x → wz.heap.size ≤ x) ∧ Below wz.heap.size wz wr) (fun j _ => L.length - (intOf j).toNat)
  case atStart => exact ⟨0, S, [], Nat.zero_le _, rfl, HC0.out, Nat.le_refl _, HS1.out, hb1⟩
  case round =>
    clear hb1
    obtain ⟨k, S', R, hk, rfl, hcr, hRl, hsw, hb2⟩ := hrel
    have hbs := hb2.size
    have HCR := Lib.hid hcr
    have HSW := Lib.hid hsw
    have HCT := Lib.hid (HD.out.crt _ _ _ _ hcr)
    clear hcr hsw HC0 HS1
    by_cases hlt : k < L.length
    · have kk : (k : Int) < L.length := by omega
      have hxk : L[k]? = some L[k] := List.getElem?_eq_getElem hlt
      generalize hit : L[k] = p at *
      obtain ⟨px, pc⟩ := p
      obtain ⟨b1, off, rfl, hbl, c0, c1⟩ := (HPZ.out.call hb2).at_ k _ hxk
      simp only at c0 c1
      have hok := HP.out.ok _ (List.mem_of_getElem? hxk)
      have HOK := Lib.hid hok
      obtain ⟨⟨o1, o2⟩, o3, o4⟩ := hok
      simp only at o1 o2 o3 o4
      clear hxk hit
      have HC1 := Lib.hid (HD.out.call HCR.out ((Below.refl _ _).alloc (Nat.le_refl _) (.cells #[.int .i64 px, .int .u64 pc] 31)))
      have hsl := Lib.hid (HD.out.lt _ _ _ _ HCR.out)
      go_wp2_with fail
      refine (HD.out.add _ B S' R px pc HC1.out HOK.out.1 HOK.out.2).mono ?_
      rintro e w3 ⟨S3, rfl, h3, k3, hs3⟩
      have hb3 := k3.below (hb2.alloc hbs _) (by simp; omega) HSW.out
      have HRL : Hid ((crRow R px pc).length ≤ k + 1) := Lib.hid (Nat.le_trans (crRow_len R px pc) (by omega))
      have HC3 := Lib.hid h3
      have HS3 : Hid (∀ x, S3 x → wz.heap.size ≤ x) := Lib.hid fun x hx => by
        rcases hs3 x hx with h | h
        · exact HSW.out x h
        · simp at h; omega
      clear h3 k3 hs3 hb2 hbs
      go_wp2_with fail
      go_roundw
      case rel => exact ⟨k + 1, S3, _, by omega, by go_num, HC3.out, HRL.out, HS3.out, hb3⟩
      case measure => simp [intOf]; omega
    · obtain rfl : k = L.length := by omega
      have kk : ¬ (L.length : Int) < L.length := by omega
      go_wp2_with fail
      refine (HD.out.pairs _ B S' R HCR.out).mono ?_
      rintro e w3 ⟨v, rfl, ho, b3⟩
      obtain ⟨A3, c3, rfl, hP3⟩ := ho.pairs HCT.out.ok
      have hC3 := HD.out.call HCR.out b3
      have hb3 := hb2.trans (b3.mono hbs)
      have hb3s := hb3.size
      have HP3 := Lib.hid hP3
      have HC3 := Lib.hid hC3
      clear ho hP3 hC3 b3 hb2 HCR
      have hlt3 := Lib.hid (HD.out.lt _ _ _ _ HC3.out)
      go_wp2_with fail
      obtain ⟨wq, hwq⟩ : ∃ wq, (w3.alloc (.cells #[.slice A3 R.length c3] 22)).alloc (.cells #[.int .i64 0] 3) = wq := ⟨_, rfl⟩
      have bq : Below w3.heap.size w3 wq := by rw [← hwq]; exact ((Below.refl _ _).alloc (Nat.le_refl _) _).alloc (by simp) _
      have rq : Uno wq w3.heap.size (.slice A3 R.length c3) := by rw [← hwq]; exact (Uno.new w3 _ _).alloc _
      have kq : Uno wq (w3.heap.size + 1) (.int .i64 0) := by
        have := Uno.new (w3.alloc (.cells #[.slice A3 R.length c3] 22)) (.int .i64 0) 3
        rw [World.size_alloc] at this
        rw [← hwq]; exact this
      have zq : wq.heap.size = w3.heap.size + 2 := by rw [← hwq]; simp
      have HBQ := Lib.hid bq
      have HRQ := Lib.hid rq
      have HKQ := Lib.hid kq
      have HZQ := Lib.hid zq
      have HB3 := Lib.hid hb3
      clear bq rq kq zq hb3
      rw [hwq]
      clear hwq
      refine (HAL.out.all 7 _ B S' R (by omega) (HD.out.call HC3.out HBQ.out)).mono ?_
      rintro e wa ⟨gf, lb, U, rfl, heg, hba, hU, hseq⟩
      have za := hba.size
      have B3 : Below w3.heap.size w3 wa := HBQ.out.trans (hba.mono (by rw [HZQ.out]; omega))
      have BA : Below w.heap.size w wa := (HBZ.out.trans (HB3.out.mono HBZ.out.size)).trans (B3.mono (Nat.le_trans HBZ.out.size hb3s))
      have U1 : Uno wa w.heap.size (.int .i64 stop) := (HUZ.out.call HB3.out).call B3
      have U2 : Uno wa (w.heap.size + 1) (.bool false) := (HVZ.out.call HB3.out).call B3
      have U3 : Uno wa w3.heap.size (.slice A3 R.length c3) := HRQ.out.call hba
      have U4 : Uno wa (w3.heap.size + 1) (.int .i64 0) := HKQ.out.call hba
      have PA : Pairs wa A3 R := HP3.out.call B3
      have hUr : ∀ k, U k → k < wa.heap.size ∧ k ≠ w3.heap.size + 1 ∧ k ≠ w.heap.size + 1 := fun k hk => by
        have h1 := hU k hk
        have h2 := HZQ.out
        have h3 := HZZ.out
        rcases h1.1 with h | h
        · have h4 := hlt3.out k h
          have h5 := HSW.out k h
          omega
        · omega
      have HEG := Lib.hid heg
      have HSQ := Lib.hid hseq
      have HU := Lib.hid hUr
      have hRl2 : R.length ≤ 100 := by omega
      have zaz : w3.heap.size + 2 ≤ wa.heap.size := by rw [← HZQ.out]; exact za
      have zww : w.heap.size + 2 ≤ w3.heap.size := by rw [← HZZ.out]; exact hb3s
      clear heg hseq hU hUr hba za B3
      go_wp2_with fail
      have HRZ := Lib.hid hRl2
      have HLOW : Hid (∀ b off, A3 = some ⟨b, off, none⟩ → R ≠ [] → b ≠ w3.heap.size + 1) := Lib.hid (by
        rintro b off rfl hne
        cases R with
        | nil => exact absurd rfl hne
        | cons p r =>
          obtain ⟨b', off', e, hb', _, _⟩ := HP3.out.at_ 0 p rfl
          have := (Addr.mk.inj (Option.some.inj e)).1
          omega)
      refine (wpIn_wide (n := 8)).1 ?_
      refine wpIn_rangeFunc_ownH rfl (by omega) (gf := gf) (lb := lb) rfl trivial HEG.out HSQ.out keepU_t (keepU_b (fun k hk => (HU.out k hk).1)) (Below.refl _ _) (fun _ => rfl)
        (fun pre W => (Uno W w.heap.size (.int .i64 stop) ∧ Uno W (w.heap.size + 1) (.bool false) ∧ Uno W w3.heap.size (.slice A3 R.length c3) ∧ Uno W (w3.heap.size + 1) (.int .i64 (pre.length : Int)) ∧ Pairs W A3 R ∧ pre = R.take pre.length ∧ (pre.length = 0 ∨ ((pre.length : Int) == stop) = false)) ∧ Below w.heap.size w W)
        (fun c pre W => ((c = .ret ∧ ¬ pre <+: R) ∨ (c = .exit 2 ∧ ((pre.length : Int) == stop) = true ∧ Uno W w.heap.size (.int .i64 stop) ∧ Uno W (w.heap.size + 1) (.bool false) ∧ Uno W w3.heap.size (.slice A3 R.length c3) ∧ Uno W (w3.heap.size + 1) (.int .i64 (pre.length : Int)))) ∧ Below w.heap.size w W)
        (OwnFrom.and (Own.from (fun s A B row hs hg hr => ⟨Uno.own _ (fun _ : Unit => _) () A B row hs.1 hg hr, Uno.own _ (fun _ : Unit => _) () A B row hs.2.1 hg hr, Uno.own _ (fun _ : Unit => _) () A B row hs.2.2.1 hg hr, Uno.own _ (fun _ : Unit => _) () A B row hs.2.2.2.1 hg hr, Pairs.own hs.2.2.2.2.1 hg hr, hs.2.2.2.2.2⟩) _) (ownFrom_below (Nat.le_refl _) (by omega)))
        (fun c => OwnFrom.and (Own.from (fun s A B row hs hg hr => by
          rcases hs with hs | hs
          · exact Or.inl hs
          · exact Or.inr ⟨hs.1, hs.2.1, Uno.own _ (fun _ : Unit => _) () A B row hs.2.2.1 hg hr, Uno.own _ (fun _ : Unit => _) () A B row hs.2.2.2.1 hg hr, Uno.own _ (fun _ : Unit => _) () A B row hs.2.2.2.2.1 hg hr, Uno.own _ (fun _ : Unit => _) () A B row hs.2.2.2.2.2 hg hr⟩) _) (ownFrom_below (Nat.le_refl _) (by omega)))
        ⟨⟨U1, U2, U3, U4, PA, rfl, Or.inl rfl⟩, BA⟩
        (fun x a' W => a' = { tmps := #[.slice A L.length cap, .int .i64 stop, undef, .pointer (some ⟨w.heap.size, 0, none⟩), .pointer (some ⟨w.heap.size + 1, 0, none⟩), .pointer (some ⟨B, 0, none⟩), undef, u7, .pointer (some ⟨w3.heap.size, 0, none⟩), .pointer (some ⟨w3.heap.size + 1, 0, none⟩), .int .i64 x.1, .int .u64 x.2, .bool true, .bool false, .slice A L.length cap, .int .i64 (L.length : Int), .bool (decide ((100 : Int) < (L.length : Int))), .pointer (some ⟨B, 0, none⟩), .slice A L.length cap, .int .i64 (L.length : Int), .int .i64 (L.length : Int), .bool false, u22, u23, u24, u25, u26, u27, u28, u29, u30, .pointer (some ⟨B, 0, none⟩), .slice A3 R.length c3, .pointer (some ⟨B, 0, none⟩), .func (.func gf) #[] lb, .int .i64 x.1, .int .u64 x.2, undef, undef, undef, undef, undef, undef, undef, undef, undef, undef, undef, undef, undef, undef, undef, undef, undef, undef, undef, undef, undef, undef, undef, undef, undef, undef, undef, undef, undef, undef], defers := [] })
        (fun x a' _ X Y row hs hg hr => hs)
        ?assign ?body ?done ?stop
      case assign =>
        rintro l pre ⟨x1, x2⟩ W K hI hK
        simp only [encPr]
        gi_wp2
        exact hK _ _ ((KeepsOthers.refl W).from _) (fun _ _ => rfl) hI rfl
      case body =>
        rintro l pre ⟨x1, x2⟩ a' W hl _ ⟨⟨a1, a2, a3, a4, aP, hp, hst⟩, hB⟩ rfl hlt
        obtain ⟨j, hj⟩ : ∃ j : Nat, pre.length = j := ⟨_, rfl⟩
        have hjl : Hid ((pre ++ [(x1, x2)]).length = j + 1) := Lib.hid (by simp [hj])
        rw [hj] at a4 hp hlt
        have jj : (j : Int) < R.length := by omega
        have hxj : R[j]? = some R[j] := List.getElem?_eq_getElem hlt
        generalize hit : R[j] = p at *
        obtain ⟨px, pc⟩ := p
        obtain ⟨b9, off9, rfl, hb9, c0, c1⟩ := aP.at_ j _ hxj
        simp only at c0 c1
        have z4 := a4.lt
        have z1' := a1.lt
        have HP9 := Lib.hid aP
        have HPR := Lib.hid hp
        have hj1 : Hid (((j + 1 : Nat) : Int) = (j : Int) + 1) := Lib.hid (by omega)
        have Good : Hid (px = x1 → pc = x2 → pre ++ [(x1, x2)] = R.take (j + 1)) := Lib.hid (by
          rintro rfl rfl; rw [HPR.out, ← take_snocP hxj])
        have Bad : Hid (¬ (px = x1 ∧ pc = x2) → ¬ (pre ++ [(x1, x2)]) <+: R) := Lib.hid (by
          intro hn ⟨t, ht⟩
          have e : R[j]? = some (x1, x2) := by rw [← ht, List.append_assoc, List.getElem?_append_right (by omega), hj, Nat.sub_self]; rfl
          rw [hxj] at e
          have := Option.some.inj e
          exact hn ⟨congrArg Prod.fst this, congrArg Prod.snd this⟩)
        clear hj hp hst hit hxj aP
        obtain ⟨p0, p1⟩ := id a1
        obtain ⟨p2, p3⟩ := id a2
        obtain ⟨p4, p5⟩ := id a3
        obtain ⟨p6, p7⟩ := id a4
        have hKu : ∀ (v : Value), KeepU U W (W.setCell ⟨w3.heap.size + 1, 0, none⟩ v) := fun v k hk => Below.heap_setCell _ _ _ _ (by have := (HU.out k hk).2.1; exact this)
        have HKU := Lib.hid hKu
        clear hKu
        by_cases hx1 : px = x1
        · by_cases hx2 : pc = x2
          · have G := Lib.hid (Good.out hx1 hx2)
            subst hx1 hx2
            by_cases hs2 : (j : Int) + 1 = stop
            · have q3 : ((j : Int) + 1 == stop) = true := by simp [hs2]
              have Q3 := Lib.hid hs2
              clear hs2
              gi_wp2
              exact ⟨(KeepsOthers.setCell _ _ _).from _, ⟨Or.inr ⟨rfl, by rw [hjl.out, hj1.out]; exact Q3.out, a1.past (by omega) _, a2.past (by omega) _, a3.past (by omega) _, by rw [hjl.out, hj1.out]; exact a4.put _⟩, hB.setCell (p := ⟨w3.heap.size + 1, 0, none⟩) (by simp; omega) _⟩⟩
            · have q3 : ((j : Int) + 1 == stop) = false := by simp [hs2]
              have Q3 := Lib.hid hs2
              clear hs2
              gi_wp2
              exact ⟨(KeepsOthers.setCell _ _ _).from _, HKU.out _, ⟨⟨a1.past (by omega) _, a2.past (by omega) _, a3.past (by omega) _, by rw [hjl.out, hj1.out]; exact a4.put _, pairs_past HP9.out HLOW.out _, by rw [hjl.out]; exact G.out, Or.inr (by rw [hjl.out, hj1.out]; exact Q3.out)⟩, hB.setCell (p := ⟨w3.heap.size + 1, 0, none⟩) (by simp; omega) _⟩⟩
          · have B9 := Lib.hid (Bad.out (fun h => hx2 h.2))
            subst hx1
            have q2 : (pc == x2) = false := by simp [hx2]
            gi_wp2
            exact ⟨(KeepsOthers.setCell _ _ _).from _, ⟨Or.inl ⟨rfl, B9.out⟩, hB.setCell (p := ⟨w.heap.size + 1, 0, none⟩) (by simp) _⟩⟩
        · have B9 := Lib.hid (Bad.out (fun h => hx1 h.1))
          have q1 : (px == x1) = false := by simp [hx1]
          gi_wp2
          exact ⟨(KeepsOthers.setCell _ _ _).from _, ⟨Or.inl ⟨rfl, B9.out⟩, hB.setCell (p := ⟨w.heap.size + 1, 0, none⟩) (by simp) _⟩⟩
      case done =>
        rintro D ys W hD rfl ⟨⟨a1, a2, a3, a4, aP, _, hst⟩, hB⟩ hK
        have HKD := Lib.hid hK
        have hl63 : (ys.length : Int) ≤ 100 := by omega
        clear aP hRl hRl2 HRZ
        generalize ys.length = n at *
        obtain ⟨p0, p1⟩ := id a1
        obtain ⟨p2, p3⟩ := id a2
        obtain ⟨p4, p5⟩ := id a3
        obtain ⟨p6, p7⟩ := id a4
        by_cases hs : (n : Int) = stop
        · have q3 : ((n : Int) == stop) = true := by simp [hs]
          clear hs hst hK
          go_wp2_with fail
          have hK' := (KeepsOthers.setCell W ⟨w.heap.size + 1, 0, none⟩ (.bool true)).same D _ HKD.out rfl
          refine ⟨by simp, .inl ⟨_, _, rfl, run_takeDeferred hK', ?_⟩⟩
          have hc5 := cell_kept (World.cell?_setCell_same' W ⟨w.heap.size + 1, 0, none⟩ (.bool true) (by rw [p2]; rfl)) (grownBy_putObj' _ D (.deferred none)) (fun r e => by cases e; exact ⟨_, hK', rfl⟩)
          refine ⟨.bool true, ?_, rfl, (hB.setCell (p := ⟨w.heap.size + 1, 0, none⟩) (by simp) _).trans (belowK_b (w := w) (Nat.le_refl _) _ D _ _ (by omega) hK' rfl rfl)⟩
          simp [results, Try.f6, go_sem, hc5]
        · have q3 : ((n : Int) == stop) = false := by simp [hs]
          clear hs hst hK
          go_wp2_with fail
          have hK' := (KeepsOthers.setCell W ⟨w.heap.size + 1, 0, none⟩ (.bool true)).same D _ HKD.out rfl
          refine ⟨by simp, .inl ⟨_, _, rfl, run_takeDeferred hK', ?_⟩⟩
          have hc5 := cell_kept (World.cell?_setCell_same' W ⟨w.heap.size + 1, 0, none⟩ (.bool true) (by rw [p2]; rfl)) (grownBy_putObj' _ D (.deferred none)) (fun r e => by cases e; exact ⟨_, hK', rfl⟩)
          refine ⟨.bool true, ?_, rfl, (hB.setCell (p := ⟨w.heap.size + 1, 0, none⟩) (by simp) _).trans (belowK_b (w := w) (Nat.le_refl _) _ D _ _ (by omega) hK' rfl rfl)⟩
          simp [results, Try.f6, go_sem, hc5]
      case stop =>
        rintro D c pre W hD hpre ⟨h | ⟨rfl, q1, a1, a2, a3, a4⟩, hB⟩ hK
        · exact absurd hpre h.2
        · have HKD := Lib.hid hK
          obtain ⟨p0, p1⟩ := id a1
          obtain ⟨p2, p3⟩ := id a2
          obtain ⟨p4, p5⟩ := id a3
          obtain ⟨p6, p7⟩ := id a4
          have hpl := Lib.hid hpre.length_le
          clear hK hpre
          generalize (pre.length : Int) = J at *
          gi_wp2
          go_wp2_with fail
          have hK' := (KeepsOthers.setCell W ⟨w.heap.size + 1, 0, none⟩ (.bool true)).same D _ HKD.out rfl
          refine ⟨by simp, .inl ⟨_, _, rfl, run_takeDeferred hK', ?_⟩⟩
          have hc5 := cell_kept (World.cell?_setCell_same' W ⟨w.heap.size + 1, 0, none⟩ (.bool true) (by rw [p2]; rfl)) (grownBy_putObj' _ D (.deferred none)) (fun r e => by cases e; exact ⟨_, hK', rfl⟩)
          refine ⟨.bool true, ?_, rfl, (hB.setCell (p := ⟨w.heap.size + 1, 0, none⟩) (by simp) _).trans (belowK_b (w := w) (Nat.le_refl _) _ D _ _ (by omega) hK' rfl rfl)⟩
          simp [results, Try.f6, go_sem, hc5]

set_option maxRecDepth 100000 in
set_option maxHeartbeats 4000000 in
theorem cstops_many {Cr : World → Nat → (Nat → Prop) → List PairV → Prop} (D : CrateDoes Cr) (w : World) (A : Option Addr) (cap : Nat) (L : List PairV) (stop : Int) (hll : ¬ L.length ≤ 100) (hl : L.length ≤ 140737488351232) :
    Calls Try.prog 6 #[.slice A L.length cap, .int .i64 stop] w fun e w' => e = .returned (.bool true) ∧ Below w.heap.size w w' := by
  have q0 : (100 : Int) < L.length := by omega
  have hl63 : (L.length : Int) ≤ 140737488351232 := by omega
  have HD := Lib.hid D
  have bz : Below w.heap.size w ((w.alloc (.cells #[.int .i64 stop] 3)).alloc (.cells #[.bool false] 4)) := ((Below.refl _ _).alloc (Nat.le_refl _) _).alloc (by simp) _
  have vz : Uno ((w.alloc (.cells #[.int .i64 stop] 3)).alloc (.cells #[.bool false] 4)) (w.heap.size + 1) (.bool false) := by
    have := Uno.new (w.alloc (.cells #[.int .i64 stop] 3)) (.bool false) 4
    rw [World.size_alloc] at this
    exact this
  have HV := Lib.hid vz
  clear D vz
  go_enter Try.func6, Try.ntmps6
  go_wp2_with fail
  refine (calive_any HD.out _).mono ?_
  rintro e wA ⟨rfl, hbA⟩
  obtain ⟨r0, r1⟩ := HV.out.call hbA
  have BA := bz.trans (hbA.mono (by simp; omega))
  clear hbA
  go_wp2_with fail
  refine bodyPost_ret (v := .bool true) (by simp [results, Try.results6, go_sem, r0]) rfl ⟨rfl, ?_⟩
  exact BA.setCell (p := ⟨w.heap.size + 1, 0, none⟩) (by simp) _
theorem cstops_walk {Cr : World → Nat → (Nat → Prop) → List PairV → Prop} (D : CrateDoes Cr) (AL : CrateAll Cr) (w : World) (A : Option Addr) (cap : Nat) (L : List PairV) (stop : Int) (h : Pairs w A L) (hl : L.length ≤ 140737488351232) (hi : I64 stop) :
    Calls Try.prog 6 #[.slice A L.length cap, .int .i64 stop] w fun e w' => e = .returned (.bool true) ∧ Below w.heap.size w w' := by
  by_cases hll : L.length ≤ 100
  · exact (callsIn_wide (n := 8)).1 (cstops_in D AL w A cap L stop h hll hi)
  · exact cstops_many D w A cap L stop hll hl
end Go.Proofs.Ytggdmlldolaojaa
