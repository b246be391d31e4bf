/-
  Texts joined, in build order: HighR, HighX, ShelfS, CellS.
-/
import Derived.Test.YtcijflakldggaaaGreatK4
import Derived.Shelf.SlSorted.Search
import Derived.Test.YtcijflakldggaaaGreatProg
import Derived.Lib.SmallJoins
/-
  Walks: package highcap: Merge.
-/
namespace Go.Proofs.YtcijflakldggaaaGreat
set_option linter.unusedVariables false
set_option linter.unusedSimpArgs false
open Go.RowKit

set_option maxHeartbeats 1000000 in
theorem hlmerge_nil (w : World) :
    Calls Tryz.prog 90 #[.pointer none, .pointer none] w fun e w' => e = .returned (.int .i64 2) ∧ Below w.heap.size w w' := by
  go_enter Tryz.func90, Tryz.ntmps90
  go_wp2_with fail
  go_ret
  exact ⟨rfl, Below.refl _ _⟩
set_option maxHeartbeats 1000000 in
theorem hlmerge_none (w : World) (B : Nat) :
    Calls Tryz.prog 90 #[.pointer (some ⟨B, 0, none⟩), .pointer none] w fun e w' => e = .returned (.int .i64 2) ∧ Below w.heap.size w w' := by
  go_enter Tryz.func90, Tryz.ntmps90
  go_wp2_with fail
  go_ret
  exact ⟨rfl, Below.refl _ _⟩
set_option maxHeartbeats 1000000 in
theorem hlmerge_other (w : World) (B B' : Nat) (m m' : Int) (h : w.cell? ⟨B, 0, none⟩ = some (.int .i64 m)) (h' : w.cell? ⟨B', 0, none⟩ = some (.int .i64 m')) (hm : m ≠ m') :
    Calls Tryz.prog 90 #[.pointer (some ⟨B, 0, none⟩), .pointer (some ⟨B', 0, none⟩)] w fun e w' => e = .returned (.int .i64 8) ∧ Below w.heap.size w w' := by
  have hm2 : (m == m') = false := by simp [hm]
  clear hm
  go_enter Tryz.func90, Tryz.ntmps90
  go_wp2_with fail
  go_quiet (fail)
  go_wp2_with fail
  go_ret
  exact ⟨rfl, below_drewN (Below.refl _ _) _⟩

/-- A round of it, as numbers. -/
theorem mh_step {m T T' : Int} {K K' K1 : List PairV} {k : Nat} {xi xc l1 : Int} (hp : Hgp m K T) (hp' : Hgp m K' T') (hs : T + T' ≤ 9223372036854775807) (hk : K'[k]? = some (xi, xc)) (h1 : K1 = keepH m (joinP K (K'.take k)))
    (h2 : l1 = (T - sumP K) + (T' - sumP K') + sumP K + sumP (K'.take k) - sumP K1) :
    GoodP K1 ∧ (∀ p, p ∈ K1 → okP p) ∧ keepH m K1 = K1 ∧ K1.length ≤ K.length + K'.length ∧ 0 ≤ l1 ∧ l1 + sumP K1 + xc ≤ 9223372036854775807 ∧ 0 < xc ∧
      keepH m (addP K1 xi xc) = keepH m (joinP K (K'.take (k + 1))) ∧ l1 + sumP K1 + xc - sumP (keepH m (addP K1 xi xc)) = (T - sumP K) + (T' - sumP K') + sumP K + sumP (K'.take (k + 1)) - sumP (keepH m (addP K1 xi xc)) := by
  have hm : 0 < m := by have := hp.m1; omega
  have hx := good_each hp'.good hp'.ok _ (List.mem_of_getElem? hk)
  have hst := psum_step hk
  have ht0 := sumP_take (L := K') k (ok_pos hp'.ok)
  have ht1 := sumP_take (L := K') (k + 1) (ok_pos hp'.ok)
  have hq := hp.sum
  have hq' := hp'.sum
  have hlt : k < K'.length := (List.getElem?_eq_some_iff.1 hk).1
  have J := join_facts (K'.take k) K hp.good hp.ok (fun p h => good_each hp'.good hp'.ok p (List.mem_of_mem_take h)) (by omega)
  have hks := keeph_sum m (ok_pos J.ok)
  have hJs := J.sum
  have hJl := J.len
  rw [List.length_take] at hJl
  have hkl := keeph_le m (joinP K (K'.take k))
  have hcn := count_le_sum xi (ok_pos J.ok)
  have hx2 := hx.2
  simp only at hst hx2
  rw [← h1] at hks hkl
  refine ⟨by rw [h1]; exact keeph_good J.good, by rw [h1]; exact keeph_ok J.ok, by rw [h1]; exact keeph_idem hm J.good, by omega, by omega, by omega, hx2, ?_, by omega⟩
  rw [take_snocP hk, join_snoc, h1]
  exact keeph_add hm J.good (by omega) hx2

set_option maxRecDepth 1000000 in
set_option maxHeartbeats 4000000 in
theorem hlmerge_any {St : World → Nat → (Nat → Prop) → Int → List PairV → Prop} (D : StripDoes St) (w : World) (B : Nat) (S : Nat → Prop) (m : Int) (K : List PairV) (T : Int) (B' : Nat) (S' : Nat → Prop) (K' : List PairV) (T' : Int) (h : HighX St w B S m K T) (h' : HighX St w B' S' m K' T') (hd : B' = B ∨ ∀ k, S k → ¬ S' k) (hl : K.length ≤ 300) (hl' : K'.length ≤ 300) (hs : T + T' ≤ 9223372036854775807) :
    Calls Tryz.prog 90 #[.pointer (some ⟨B, 0, none⟩), .pointer (some ⟨B', 0, none⟩)] w fun e w' => e = .returned (.int .i64 0) ∧ ∃ S2, HighRaw St w' B S2 m (keepH m (joinP K K')) (T + T' - sumP (keepH m (joinP K K'))) ∧ Keeps S w w' ∧ (∀ k, S2 k → S k ∨ w.heap.size ≤ k) := by
  have HD := Lib.hid D
  have HX := Lib.hid h
  have HX' := Lib.hid h'
  obtain ⟨hp, C, S0, hb, hst, hn, hS⟩ := id h
  obtain ⟨hp', C', S0', hb', hst', hn', hS'⟩ := id h'
  obtain ⟨c0, c1, c2⟩ := three_cells hb
  obtain ⟨c0', c1', c2'⟩ := three_cells hb'
  have HP := Lib.hid hp
  have HP' := Lib.hid hp'
  have tt := hp.top
  have tt' := hp'.top
  have t0 : 0 ≤ T := by have := hp.pos; have := hp.sum; omega
  have t0' : 0 ≤ T' := by have := hp'.pos; have := hp'.sum; omega
  have HT : Hid (∀ w', Below w.heap.size w w' → Calls Tryz.prog 102 #[.pointer (some ⟨B, 0, none⟩)] w' fun e w'' => e = .returned (.int .u64 T) ∧ Below w'.heap.size w' w'') := Lib.hid (fun w' hw => hltotal_raw D ⟨h.1, hraw_call D h.2 hw⟩ (by omega))
  have HT' : Hid (∀ w', Below w.heap.size w w' → Calls Tryz.prog 102 #[.pointer (some ⟨B', 0, none⟩)] w' fun e w'' => e = .returned (.int .u64 T') ∧ Below w'.heap.size w' w'') := Lib.hid (fun w' hw => hltotal_raw D ⟨h'.1, hraw_call D h'.2 hw⟩ (by omega))
  obtain ⟨l, hll⟩ : ∃ l, T - sumP K = l := ⟨_, rfl⟩
  obtain ⟨l', hll'⟩ : ∃ l', T' - sumP K' = l' := ⟨_, rfl⟩
  rw [hll] at c2
  rw [hll'] at c2'
  have hl0 : 0 ≤ l := by have := hp.sum; omega
  have hl0' : 0 ≤ l' := by have := hp'.sum; omega
  have hl1 : l + l' ≤ 9223372036854775807 := by have := hp.pos; have := hp'.pos; omega
  have u1 : IntKind.u64.wrap (l + l') = l + l' := by rw [IntKind.wrap_u64]; omega
  obtain ⟨pb, pq⟩ := plus2_yes (x := T) (y := T') hs
  have PB := Lib.hid pb
  have PQ := Lib.hid pq
  have HLL := Lib.hid hll
  have HLL' := Lib.hid hll'
  have HB := Lib.hid hb
  have HB' := Lib.hid hb'
  have HDJ := Lib.hid hd
  have HL := Lib.hid hl
  have HL' := Lib.hid hl'
  have HSM := Lib.hid hs
  clear D h h' hp hp' hb hb' hst hst' hn hn' hS hS' hll hll' pb pq hd hl hl'
  go_enter Tryz.func90, Tryz.ntmps90
  go_wp2_with fail
  go_quiet (fail)
  have b1 := below_drewN (Below.refl w.heap.size w) nq
  have HB1 := Lib.hid b1
  clear b1 c0 c0'
  go_wp2_with fail
  refine (HT.out _ HB1.out).mono ?_
  rintro e w2 ⟨rfl, b2⟩
  have HB2 := Lib.hid (HB1.out.trans (b2.mono HB1.out.size))
  clear b2
  go_wp2_with fail
  refine (HT'.out _ HB2.out).mono ?_
  rintro e w3 ⟨rfl, b3⟩
  have HB3 := Lib.hid (HB2.out.trans (b3.mono HB2.out.size))
  clear b3
  go_wp2_with fail
  refine (plus_two T T' (T + T') true _ _ _ ⟨by omega, by omega⟩ ⟨by omega, by omega⟩ (two_words w3 _ _ _).1 (two_words w3 _ _ _).2 PQ.out PB.out).mono ?_
  rintro e w4 ⟨rfl, rfl⟩
  obtain ⟨Y, hY⟩ : ∃ Y, w3.alloc (.cells #[.int .u64 T, .int .u64 T'] 22) = Y := ⟨_, rfl⟩
  rw [hY]
  have bY : Below w.heap.size w Y := by rw [← hY]; exact HB3.out.alloc HB3.out.size _
  have y2 := cell_later bY c2
  have y2' := cell_later bY c2'
  have yf : Y.frozen? ⟨B, 2, none⟩ = false := free8 ((bY.block B (lt_of_block HB.out)).trans HB.out) 2
  have HBY := Lib.hid bY
  clear hY bY c1 c1' c2 c2'
  go_wp2_with fail
  go_region
  obtain ⟨Z, hZ⟩ : ∃ Z, (Y.setCell ⟨B, 2, none⟩ (.int .u64 (l + l'))).drew = Z := ⟨_, rfl⟩
  rw [hZ]
  have hBw := lt_of_block HB.out
  have hSlt : ∀ k, S k → k < w.heap.size := hraw_lt HD.out HX.out.2
  have zYZ : Z.heap.size = Y.heap.size := by rw [← hZ]; simp [World.drew, World.setCell]
  have zYw := HBY.out.size
  have kZ : Keeps S w Z := by
    rw [← hZ]
    exact ((Keeps.of_below HBY.out).set 2 _ (Or.inl (hraw_B HX.out.2))).trans (Keeps.of_below (S := S) ((Below.refl _ _).drew)) (fun j hj => Or.inl hj)
  have hdr : Below (Y.setCell ⟨B, 2, none⟩ (.int .u64 (l + l'))).heap.size (Y.setCell ⟨B, 2, none⟩ (.int .u64 (l + l'))) Z := by rw [← hZ]; exact (Below.refl _ _).drew
  have rZ : HighRaw St Z B S m K (l + l') := hraw_call HD.out (hraw_lost HD.out (hraw_call HD.out HX.out.2 HBY.out) (l + l')) hdr
  have rZ' : ∃ lx, HighRaw St Z B' S' m K' lx := by
    have h1 := hraw_call HD.out HX'.out.2 HBY.out
    rcases HDJ.out with e | hdis
    · have h2 := hraw_lost HD.out h1 (l + l')
      rw [e] at h2 ⊢
      exact ⟨_, hraw_call HD.out h2 hdr⟩
    · exact ⟨_, hraw_call HD.out (hraw_keep HD.out h1 (fun k hk => Below.heap_setCell _ _ _ _ (by show k ≠ B; rintro rfl; exact hdis k (hraw_B HX.out.2) hk))) hdr⟩
  have HPR : Hid (Calls Tryz.prog 103 #[.pointer (some ⟨B', 0, none⟩)] Z fun e w' => ∃ v, e = .returned v ∧ OwnP w' Z.heap.size v K' ∧ Below Z.heap.size Z w') := Lib.hid (by
    obtain ⟨lx, Cx, Sx, hbx, hstx, hnx, hSx⟩ := rZ'
    refine hlpairs_of Z _ _ _ (ownsh_at (three_cells hbx).2.1) (fun e w' h => ?_) (HD.out.pairs _ _ _ _ _ hstx (by have := HL'.out; omega))
    obtain ⟨v, rfl, ho, _⟩ := h
    obtain ⟨A, cap, rfl⟩ := ho.form
    exact ⟨A, _, cap, rfl⟩)
  have HRZ := Lib.hid rZ
  have HKZ := Lib.hid kZ
  have HSLT := Lib.hid hSlt
  clear hZ rZ rZ' kZ hdr hSlt y2 y2' yf u1
  go_wp2_with fail
  refine HPR.out.mono ?_
  rintro e w6 ⟨v6, rfl, ho6, b6⟩
  have hlt6 := ho6.lt
  obtain ⟨A6, cap6, rfl⟩ := ho6.form
  have z6 := b6.size
  have HR6 := Lib.hid (hraw_call HD.out HRZ.out b6)
  have HK6 : Hid (Keeps S w w6) := Lib.hid (HKZ.out.trans (Keeps.of_below (S := S) b6) (fun j hj => Or.inl hj))
  have HA6 : Hid (∀ g, (Value.slice A6 K'.length cap6).ownBlock = some g → Z.heap.size ≤ g ∧ g < w6.heap.size) := Lib.hid hlt6
  have HO6 := Lib.hid ho6
  have HLS : Hid (l + l' = (T - sumP K) + (T' - sumP K') + sumP K + sumP (K'.take 0) - sumP K) := Lib.hid (by rw [List.take_zero, sumP_nil, HLL.out, HLL'.out]; omega)
  have HK0 : Hid (K = keepH m (joinP K (K'.take 0))) := Lib.hid (by rw [List.take_zero, join_nil, HP.out.kept])
  obtain ⟨N, hN⟩ : ∃ N, K'.length = N := ⟨_, rfl⟩
  have HN := Lib.hid hN
  have hNb : N ≤ 300 := by have := HL'.out; omega
  clear ho6 b6 hlt6
  rw [hN]
  go_wp2_with fail
  go_loopw [49] (fun j wr => ∃ (k : Nat) (S1 : Nat → Prop) (K1 : List PairV) (l1 : Int), k ≤ N ∧ j = .int .i64 k ∧ HighRaw St wr B S1 m K1 l1 ∧ K1 = keepH m (joinP K (K'.take k)) ∧ l1 = (T - sumP K) + (T' - sumP K') + sumP K + sumP (K'.take k) - sumP K1 ∧
    Keeps S w wr ∧ (∀ x, S1 x → S x ∨ w6.heap.size ≤ x) ∧ OwnP wr Z.heap.size (.slice A6 K'.length cap6) K' ∧ w6.heap.size ≤ wr.heap.size) (fun j _ => N - (intOf j).toNat)
  case atStart => exact ⟨0, S, K, l + l', Nat.zero_le _, rfl, HR6.out, HK0.out, HLS.out, HK6.out, fun x hx => Or.inl hx, HO6.out, Nat.le_refl _⟩
  case round =>
    clear HR6 HO6 HLS HK0 HRZ HPR
    obtain ⟨k, S1, K1, l1, hk, rfl, hr, hk1, hl1', hkp, hs1, ho, hz⟩ := hrel
    have HR := Lib.hid hr
    have HK1 := Lib.hid hk1
    have HL1 := Lib.hid hl1'
    have HKP := Lib.hid hkp
    have HS1 := Lib.hid hs1
    have HO := Lib.hid ho
    clear hr hk1 hl1' hkp hs1
    by_cases hlt : k < N
    · have kk : (k : Int) < (N : Int) := by omega
      have hlt2 : k < K'.length := by rw [HN.out]; exact hlt
      have hxk : K'[k]? = some K'[k] := List.getElem?_eq_getElem hlt2
      generalize hit : K'[k] = x at *
      obtain ⟨xi, xc⟩ := x
      obtain ⟨A7, cap7, e7, hP7⟩ := ho.pairs HP'.out.ok
      obtain ⟨rfl, _, rfl⟩ := Value.slice.inj e7
      obtain ⟨b1, off, rfl, hbl, c0, c1⟩ := hP7.at_ k _ hxk
      simp only at c0 c1
      have hok := HP'.out.ok _ (List.mem_of_getElem? hxk)
      obtain ⟨f1, f2, f3, f4, f5, f6, f7, f8, f9⟩ := mh_step HP.out HP'.out HSM.out hxk HK1.out HL1.out
      have HOK := Lib.hid hok
      obtain ⟨⟨o1, o2⟩, o3, o4⟩ := hok
      simp only at o1 o2 o3 o4
      have HRA := Lib.hid (hraw_call HD.out HR.out ((Below.refl _ _).alloc (Nat.le_refl _) (.cells #[.int .i64 xi, .int .u64 xc] 114)))
      have HPUT := Lib.hid (hlput_any HD.out _ B S1 m K1 l1 xi xc HRA.out f1 f2 f3 (by have := HL.out; have := HL'.out; omega) HOK.out.1 f7 HP.out.m1 HP.out.m2 f5 f6)
      have HKA : Hid (Keeps S w (wr.alloc (.cells #[.int .i64 xi, .int .u64 xc] 114))) := Lib.hid (HKP.out.new _)
      have HOA : Hid (OwnP (wr.alloc (.cells #[.int .i64 xi, .int .u64 xc] 114)) Z.heap.size (.slice (some ⟨b1, off, none⟩) K'.length cap6) K') := Lib.hid (HO.out.alloc _)
      have HZA : Hid ((wr.alloc (.cells #[.int .i64 xi, .int .u64 xc] 114)).heap.size = wr.heap.size + 1) := Lib.hid (by simp)
      have HF8 := Lib.hid f8
      have HF9 := Lib.hid f9
      clear hxk hit ho hP7 e7 f1 f2 f3 f4 f5 f6 f7 f8 f9
      go_wp2_with fail
      refine HPUT.out.mono ?_
      rintro e w8 ⟨rfl, S2, hr2, k2, hs2⟩
      have HR2 := Lib.hid hr2
      have HK2 := Lib.hid k2
      have HS2 := Lib.hid hs2
      clear hr2 k2 hs2
      go_wp2_with fail
      go_roundw
      case rel =>
        refine ⟨k + 1, S2, _, _, by omega, by go_num, HR2.out, HF8.out, HF9.out, HKA.out.trans HK2.out (fun j hj => ?_), fun x hx => ?_, HK2.out.own HOA.out (fun g hg hx => ?_), by have := HK2.out.size; have := HZA.out; omega⟩
        · rcases HS1.out j hj with h | h
          · exact Or.inl h
          · have := HK6.out.size; exact Or.inr (by omega)
        · rcases HS2.out x hx with h | h
          · exact HS1.out x h
          · have := HZA.out; exact Or.inr (by omega)
        · have h1 := HA6.out g hg
          rcases HS1.out g hx with h | h
          · have := HSLT.out g h; omega
          · omega
      case measure => simp [intOf]; omega
    · obtain rfl : k = N := by omega
      have kk : ¬ (k : Int) < (k : Int) := by omega
      have hfin : K1 = keepH m (joinP K K') ∧ l1 = T + T' - sumP K1 := by
        have h1 := HK1.out
        have h2 := HL1.out
        rw [← HN.out, List.take_length] at h1 h2
        exact ⟨h1, by omega⟩
      obtain ⟨A7, cap7, e7, hP7⟩ := ho.pairs HP'.out.ok
      have HFIN := Lib.hid hfin
      clear hfin ho hP7 e7
      go_wp2_with fail
      go_ret
      refine ⟨rfl, S1, ?_, HKP.out, fun x hx => ?_⟩
      · have h1 := HR.out
        rw [HFIN.out.2, HFIN.out.1] at h1
        exact h1
      · rcases HS1.out x hx with h | h
        · exact Or.inl h
        · have := HK6.out.size; exact Or.inr (by omega)
end Go.Proofs.YtcijflakldggaaaGreat

/-
  Package highcap does what the laws ask of it.
-/
namespace Go.Proofs.YtcijflakldggaaaGreat
set_option linter.unusedVariables false
set_option linter.unusedSimpArgs false
open Go.RowKit

/-- A highcap over such strips. -/
abbrev HwX := HighX StX
theorem high_does : HighDoes HwX where
  keep := fun w w' B S m K T h hk => ⟨h.1, hraw_keep strip_does h.2 hk⟩
  lt := fun w B S m K T h => hraw_lt strip_does h.2
  lwp := fun w B S m K T h => h.1
  new := fun w m h1 h2 => (hlnew_any strip_does w m h1 h2).mono fun e w' ⟨B, S, he, hr, hS, hb⟩ => ⟨B, S, he, ⟨Hgp.nil h1 h2, hr⟩, hS, hb⟩
  bad := fun w m hm hb => hlbad_any strip_does w m hm hb
  add := fun w B S m K T i c h hl hi hc => hladd_any strip_does w B S m K T i c h hl hi hc
  merge := fun w B S m K T B' S' K' T' h h' hd hl hl' hs => (hlmerge_any strip_does w B S m K T B' S' K' T' h h' hd hl hl' hs).mono fun e w' ⟨he, S2, hr, hk, hS⟩ => ⟨S2, he, ⟨h.1.join h'.1 hs, hr⟩, hk, hS⟩
  other := fun w B S m K T B' S' m' K' T' h h' hm => by
    obtain ⟨_, C, S0, hb, _⟩ := h
    obtain ⟨_, C', S0', hb', _⟩ := h'
    exact hlmerge_other w B B' m m' (three_cells hb).1 (three_cells hb').1 hm
  mnil := fun w B S m K T h => hlmerge_none w B
  total := fun w B S m K T h hl => hltotal_raw strip_does h (by omega)
  lost := fun w B S m K T h => by
    obtain ⟨_, C, S0, hb, _⟩ := h
    exact (hllost_at w B _ (three_cells hb).2.2).mono fun e w' => same_below (P := fun e => e = _)
  pairs := fun w B S m K T h hl => by
    obtain ⟨_, C, S0, hb, hst, _⟩ := h
    refine hlpairs_of w _ _ _ (ownsh_at (three_cells hb).2.1) (fun e w' h => ?_) (strip_does.pairs _ _ _ _ _ hst (by omega))
    obtain ⟨v, rfl, ho, _⟩ := h
    obtain ⟨A, cap, rfl⟩ := ho.form
    exact ⟨A, _, cap, rfl⟩
  most := fun w B S m K T h => by
    obtain ⟨_, C, S0, hb, _⟩ := h
    exact (hlmost_at w B _ (three_cells hb).1).mono fun e w' => same_below (P := fun e => e = _)
  find := fun w B S m K T t h hl ht => by
    obtain ⟨hp, C, S0, hb, hst, _⟩ := h
    exact hlfind_of w _ _ t _ _ (ownsh_at (three_cells hb).2.1) ht (strip_does.find _ _ _ _ _ _ hst (by omega) ht)
  load := fun w m A cap L l m1 m2 hP hl hw hb => (hlload_any strip_does w m A cap L l m1 m2 hP hl hw hb).mono fun e w' ⟨B, S, he, hr, hS, hbb⟩ => by
    obtain ⟨h1, h2, h3, h4, h5⟩ := load_true hb
    refine ⟨B, S, he, ⟨⟨h1, hP.ok, ?_, by have := hw.1; omega, h4, m1, m2⟩, ?_⟩, hS, hbb⟩
    · have := htake_kept (k := L.length) (m := m) (by omega) h1 h5
      rwa [List.take_length] at this
    · rw [show sumP L + l - sumP L = l by omega]
      exact hr
  unfit := fun w m A cap L l m1 m2 hP hl hw hb => hlunfit_any strip_does w m A cap L l m1 m2 hP hl hw hb

set_option maxHeartbeats 400000 in
theorem hladd_nil (w : World) (i c : Int) (hi : I64 i) (hc : Word c) : Calls Tryz.prog 174 #[.pointer none, .int .i64 i, .int .u64 c] w fun e w' => e = .returned (.int .i64 2) ∧ Below w.heap.size w w' := by
  go_enter Tryz.func174, Tryz.ntmps174
  go_wp2_with fail
  go_ret
  exact ⟨rfl, Below.refl _ _⟩

theorem high_nil : HighNil where
  add := hladd_nil
  merge := hlmerge_nil
  total := fun w => hltotal_of w none none 0 0 (ownsh_none w) (lostsh_none w) (strip_nil.total w) (by decide) (by decide) (by decide)
  lost := fun w => (hllost_none w).mono fun e w' => same_below (P := fun e => e = _)
  pairs := fun w => hlpairs_of w none none _ (ownsh_none w) (fun e w' h => by
    obtain ⟨A, cap, rfl, _⟩ := h
    exact ⟨A, 0, cap, rfl⟩) (strip_nil.pairs w)
  most := fun w => (hlmost_none w).mono fun e w' => same_below (P := fun e => e = _)
  find := fun w t ht => hlfind_of w none none t 0 false (ownsh_none w) ht (strip_nil.find w t ht)
end Go.Proofs.YtcijflakldggaaaGreat

/-
  The library contract of sort.Search, laid at this translation by program.
-/
namespace Go.Proofs
open Go.Shelf
def Tryz.search_ren : Go.Shelf.Ren := ⟨fun | 16 => 163 | n => n, fun | 3 => 3 | 35 => 156 | 4 => 4 | 38 => 170 | n => n, fun | n => n⟩
theorem Tryz.search : Go.Proofs.SlLaysO.n16 Tryz.prog Tryz.search_ren := {
  mixed := by kernel_rfl
  f16 := Tryz.func163.trans (congrArg some (by kernel_rfl))
  t3 := Tryz.underlying3
  a3 := Tryz.isAgg3
  z3 := Tryz.sizeOf3
  v3 := Tryz.zeroValue3
  t4 := Tryz.underlying4
  a4 := Tryz.isAgg4
  z4 := Tryz.sizeOf4
  v4 := Tryz.zeroValue4
  t35 := Tryz.underlying156
  a35 := Tryz.isAgg156
  z35 := Tryz.sizeOf156
  v35 := Tryz.zeroValue156
  t38 := Tryz.underlying170
  a38 := Tryz.isAgg170
  z38 := Tryz.sizeOf170
  v38 := Tryz.zeroValue170 }
end Go.Proofs

/-
  Walks: a table's Index: a binary search.
-/
namespace Go.Proofs.YtcijflakldggaaaGreat
set_option linter.unusedVariables false
set_option linter.unusedSimpArgs false
open Go.RowKit Go.Sort

set_option maxHeartbeats 1000000 in
theorem tclos_any (w : World) (bm bt B g cap n i : Nat) (m x : Int) (hi : i < n) (hn : n ≤ 4096) (cm : w.cell? ⟨bm, 0, none⟩ = some (.int .u64 m)) (ct : w.cell? ⟨bt, 0, none⟩ = some (.pointer (some ⟨B, 0, none⟩)))
    (c2 : w.cell? ⟨B, 2, none⟩ = some (.slice (some ⟨g, 0, none⟩) n cap)) (ce : w.cell? ⟨g, i * 2, none⟩ = some (.int .u64 x)) :
    Calls Tryz.prog 164 (#[.int .i64 i] ++ #[.pointer (some ⟨bm, 0, none⟩), .pointer (some ⟨bt, 0, none⟩)]) w fun e w' => e = .returned (.bool (decide (m ≤ x))) ∧ ∃ q, w' = w.drewN q := by
  have hiz : (i : Int) < (n : Int) := by omega
  go_enter Tryz.func164, Tryz.ntmps164
  go_wp2_with fail
  go_quiet (fail)
  go_wp2_with fail
  go_ret
  exact ⟨rfl, _, rfl⟩

theorem grow_below {B : Nat} {w : World} (q : Nat) (os : Array Obj) (hB : B ≤ w.heap.size) : Below B w (grow (w.drewN q) os) := below_grown_sl B w q os hB

set_option maxHeartbeats 1000000 in
theorem tsearch_any (w : World) (B bm bt : Nat) (S : Nat → Prop) (u v m : Int) (n k : Nat) (h : TabX w B S u v n) (cm : w.cell? ⟨bm, 0, none⟩ = some (.int .u64 m)) (ct : w.cell? ⟨bt, 0, none⟩ = some (.pointer (some ⟨B, 0, none⟩))) (hk : idxC u v n m = k) :
    Calls Tryz.prog 163 #[.int .i64 n, .func (.func 164) #[] #[.pointer (some ⟨bm, 0, none⟩), .pointer (some ⟨bt, 0, none⟩)]] w fun e w' => e = .returned (.int .i64 k) ∧ Below w.heap.size w w' := by
  have hg := h.1
  have hn := h.2.2.1
  obtain ⟨g, cap, hc⟩ := tabx_cells h
  have eg : ∀ args w, (callFunc 164 args).run Tryz.prog w = .ok (.enter 164 args) w := enters_of Tryz.func164 (by kernel_rfl) rfl
  have lm := World.block_lt_of_cell? (a := ⟨bm, 0, none⟩) w cm
  have lt' := World.block_lt_of_cell? (a := ⟨bt, 0, none⟩) w ct
  have lB := World.block_lt_of_cell? (a := ⟨B, 2, none⟩) w hc.c2
  have hS := Any.sort_Search Tryz.search 164 #[.pointer (some ⟨bm, 0, none⟩), .pointer (some ⟨bt, 0, none⟩)] n (fun i => decide (m ≤ endC u v (lowC u v i))) w eg (by omega)
    (fun q os i hi => (tclos_any _ bm bt B g cap n i m _ hi hn (cell_grown lm cm q os) (cell_grown lt' ct q os) (cell_grown lB hc.c2 q os) (cell_grown (World.block_lt_of_cell? (a := ⟨g, i * 2, none⟩) w (hc.ce i hi)) (hc.ce i hi) q os)).mono
      fun _ _ ⟨he, q, hq⟩ => ⟨he, q, #[], by rw [hq, grow_empty]⟩)
    (fun a b hab hb ha => by
      have h1 := low_mono hg (show a + 1 ≤ b + 1 by omega)
      rw [low_succ, low_succ] at h1
      simp at ha ⊢; omega)
  have e : (List.range n).countP (fun i => !decide (m ≤ endC u v (lowC u v i))) = k := hk
  rw [e] at hS
  refine hS.mono ?_
  rintro e w' ⟨rfl, q, os, rfl⟩
  exact ⟨rfl, grow_below q os (Nat.le_refl _)⟩

theorem tsearch_nil (w : World) (bm bt : Nat) :
    Calls Tryz.prog 163 #[.int .i64 0, .func (.func 164) #[] #[.pointer (some ⟨bm, 0, none⟩), .pointer (some ⟨bt, 0, none⟩)]] w fun e w' => e = .returned (.int .i64 0) ∧ Below w.heap.size w w' := by
  have eg : ∀ args w, (callFunc 164 args).run Tryz.prog w = .ok (.enter 164 args) w := enters_of Tryz.func164 (by kernel_rfl) rfl
  have hS := Any.sort_Search Tryz.search 164 #[.pointer (some ⟨bm, 0, none⟩), .pointer (some ⟨bt, 0, none⟩)] 0 (fun i => true) w eg (by omega)
    (fun q os i hi => absurd hi (Nat.not_lt_zero _)) (fun a b hab hb ha => rfl)
  refine hS.mono ?_
  rintro e w' ⟨rfl, q, os, rfl⟩
  exact ⟨rfl, grow_below q os (Nat.le_refl _)⟩

/-- The two boxes of Index. -/
theorem tab_boxed {w : World} {B : Nat} {S : Nat → Prop} {u v m : Int} {n : Nat} (h : TabX w B S u v n) :
    TabX ((w.alloc (.cells #[.pointer (some ⟨B, 0, none⟩)] 103)).alloc (.cells #[.int .u64 m] 22)) B S u v n :=
  tabx_call h (((Below.refl _ _).alloc (Nat.le_refl _) _).alloc (by simp) _)

set_option maxHeartbeats 1000000 in
theorem tindex_yes (w : World) (B : Nat) (S : Nat → Prop) (u v m : Int) (n k : Nat) (h : TabX w B S u v n) (h1 : 1 ≤ m) (h2 : m ≤ 9223372036854775808) (hk : idxC u v n m = k) :
    Calls Tryz.prog 160 #[.pointer (some ⟨B, 0, none⟩), .int .u64 m] w fun e w' => e = .returned (.tuple #[.int .i64 k, .bool true]) ∧ Below w.heap.size w w' := by
  obtain ⟨k', hk1, hk2, _, _⟩ := idx_at h.1 h.2.1 h1 h2
  rw [hk] at hk2
  subst hk2
  have hn := h.2.2.1
  have HB := Lib.hid (tab_boxed (m := m) h)
  have HT := Lib.hid h
  have HK := Lib.hid hk
  have m0 : (m == 0) = false := by simp; omega
  have ek : ((k : Int) == (n : Int)) = false := by simp; omega
  clear h hk
  go_enter Tryz.func160, Tryz.ntmps160
  go_wp2_with fail
  refine (tlen_any _ B S u v n HB.out).mono ?_
  rintro e w2 ⟨rfl, rfl⟩
  go_wp2_with fail
  refine (tsearch_any _ B (w.heap.size + 1) w.heap.size S u v m n k HB.out (by go_simp) (by go_simp) HK.out).mono ?_
  rintro e w3 ⟨rfl, hb3⟩
  have HB3 := Lib.hid (tabx_call HB.out hb3)
  obtain ⟨bc, bf⟩ := bcell hb3
  have hz : w.heap.size + 1 < w3.heap.size := by have := hb3.size; simp at this; omega
  go_wp2_with fail
  refine (tlen_any _ B S u v n HB3.out).mono ?_
  rintro e w4 ⟨rfl, rfl⟩
  go_wp2_with fail
  go_ret2
  exact ⟨rfl, (((Below.refl _ _).alloc (Nat.le_refl _) _).alloc (by simp) _).trans (hb3.mono (by simp; omega))⟩

set_option maxHeartbeats 1000000 in
theorem tindex_out (w : World) (B : Nat) (S : Nat → Prop) (u v m : Int) (n : Nat) (h : TabX w B S u v n) (wm : Word m) (ho : m = 0 ∨ 9223372036854775808 < m) :
    Calls Tryz.prog 160 #[.pointer (some ⟨B, 0, none⟩), .int .u64 m] w fun e w' => e = .returned (.tuple #[.int .i64 0, .bool false]) ∧ Below w.heap.size w w' := by
  have hn := h.2.2.1
  have HB := Lib.hid (tab_boxed (m := m) h)
  obtain ⟨w0, w1⟩ := wm
  rcases ho with rfl | ho
  · obtain ⟨k, hk⟩ : ∃ k, idxC u v n 0 = k := ⟨_, rfl⟩
    have HK := Lib.hid hk
    clear h hk
    go_enter Tryz.func160, Tryz.ntmps160
    go_wp2_with fail
    refine (tlen_any _ B S u v n HB.out).mono ?_
    rintro e w2 ⟨rfl, rfl⟩
    go_wp2_with fail
    refine (tsearch_any _ B (w.heap.size + 1) w.heap.size S u v 0 n k HB.out (by go_simp) (by go_simp) HK.out).mono ?_
    rintro e w3 ⟨rfl, hb3⟩
    obtain ⟨bc, bf⟩ := bcell hb3
    have hz : w.heap.size + 1 < w3.heap.size := by have := hb3.size; simp at this; omega
    go_wp2_with fail
    go_ret2
    exact ⟨rfl, (((Below.refl _ _).alloc (Nat.le_refl _) _).alloc (by simp) _).trans (hb3.mono (by simp; omega))⟩
  · have HK := Lib.hid (idx_none (u := u) (v := v) (n := n) ho)
    have m0 : (m == 0) = false := by simp; omega
    have ek : ((n : Int) == (n : Int)) = true := by simp
    clear h
    go_enter Tryz.func160, Tryz.ntmps160
    go_wp2_with fail
    refine (tlen_any _ B S u v n HB.out).mono ?_
    rintro e w2 ⟨rfl, rfl⟩
    go_wp2_with fail
    refine (tsearch_any _ B (w.heap.size + 1) w.heap.size S u v m n n HB.out (by go_simp) (by go_simp) HK.out).mono ?_
    rintro e w3 ⟨rfl, hb3⟩
    have HB3 := Lib.hid (tabx_call HB.out hb3)
    obtain ⟨bc, bf⟩ := bcell hb3
    have hz : w.heap.size + 1 < w3.heap.size := by have := hb3.size; simp at this; omega
    go_wp2_with fail
    refine (tlen_any _ B S u v n HB3.out).mono ?_
    rintro e w4 ⟨rfl, rfl⟩
    go_wp2_with fail
    go_ret2
    exact ⟨rfl, (((Below.refl _ _).alloc (Nat.le_refl _) _).alloc (by simp) _).trans (hb3.mono (by simp; omega))⟩

set_option maxHeartbeats 1000000 in
theorem tindex_none (w : World) (m : Int) (wm : Word m) :
    Calls Tryz.prog 160 #[.pointer none, .int .u64 m] w fun e w' => e = .returned (.tuple #[.int .i64 0, .bool false]) ∧ Below w.heap.size w w' := by
  obtain ⟨w0, w1⟩ := wm
  by_cases hm : m = 0
  · subst hm
    go_enter Tryz.func160, Tryz.ntmps160
    go_wp2_with fail
    refine (tlen_none _).mono ?_
    rintro e w2 ⟨rfl, rfl⟩
    go_wp2_with fail
    refine (tsearch_nil _ (w.heap.size + 1) w.heap.size).mono ?_
    rintro e w3 ⟨rfl, hb3⟩
    obtain ⟨bc, bf⟩ := bcell hb3
    have hz : w.heap.size + 1 < w3.heap.size := by have := hb3.size; simp at this; omega
    go_wp2_with fail
    go_ret2
    exact ⟨rfl, (((Below.refl _ _).alloc (Nat.le_refl _) _).alloc (by simp) _).trans (hb3.mono (by simp; omega))⟩
  · have m0 : (m == 0) = false := by simp; omega
    clear hm
    go_enter Tryz.func160, Tryz.ntmps160
    go_wp2_with fail
    refine (tlen_none _).mono ?_
    rintro e w2 ⟨rfl, rfl⟩
    go_wp2_with fail
    refine (tsearch_nil _ (w.heap.size + 1) w.heap.size).mono ?_
    rintro e w3 ⟨rfl, hb3⟩
    obtain ⟨bc, bf⟩ := bcell hb3
    have hz : w.heap.size + 1 < w3.heap.size := by have := hb3.size; simp at this; omega
    go_wp2_with fail
    refine (tlen_none _).mono ?_
    rintro e w4 ⟨rfl, rfl⟩
    go_wp2_with fail
    go_ret2
    exact ⟨rfl, (((Below.refl _ _).alloc (Nat.le_refl _) _).alloc (by simp) _).trans (hb3.mono (by simp; omega))⟩
end Go.Proofs.YtcijflakldggaaaGreat
