/-
  Walks: package highcap: Merge.
-/
import Derived.Test.YtgbhlkeclfgacaaHighQ
namespace Go.Proofs.Ytgbhlkeclfgacaa
set_option linter.unusedVariables false
set_option linter.unusedSimpArgs false
open Go.RowKit

set_option maxHeartbeats 1000000 in
theorem hlmerge_nil (w : World) :
    Calls Try.prog 29 #[.pointer none, .pointer none] w fun e w' => e = .returned (.int .i64 2) ∧ Below w.heap.size w w' := by
  go_enter Try.func29, Try.ntmps29
  go_wp2_with fail
  go_ret
  exact ⟨rfl, Below.refl _ _⟩
set_option maxHeartbeats 1000000 in
theorem hlmerge_none (w : World) (B : Nat) :
    Calls Try.prog 29 #[.pointer (some ⟨B, 0, none⟩), .pointer none] w fun e w' => e = .returned (.int .i64 2) ∧ Below w.heap.size w w' := by
  go_enter Try.func29, Try.ntmps29
  go_wp2_with fail
  go_ret
  exact ⟨rfl, Below.refl _ _⟩
set_option maxHeartbeats 1000000 in
theorem hlmerge_other (w : World) (B B' : Nat) (m m' : Int) (h : w.cell? ⟨B, 0, none⟩ = some (.int .i64 m)) (h' : w.cell? ⟨B', 0, none⟩ = some (.int .i64 m')) (hm : m ≠ m') :
    Calls Try.prog 29 #[.pointer (some ⟨B, 0, none⟩), .pointer (some ⟨B', 0, none⟩)] w fun e w' => e = .returned (.int .i64 8) ∧ Below w.heap.size w w' := by
  have hm2 : (m == m') = false := by simp [hm]
  clear hm
  go_enter Try.func29, Try.ntmps29
  go_wp2_with fail
  go_quiet (fail)
  go_wp2_with fail
  go_ret
  exact ⟨rfl, below_drewN (Below.refl _ _) _⟩

/-- A round of it, as numbers. -/
theorem mh_step {m T T' : Int} {K K' K1 : List PairV} {k : Nat} {xi xc l1 : Int} (hp : Hgp m K T) (hp' : Hgp m K' T') (hs : T + T' ≤ 9223372036854775807) (hk : K'[k]? = some (xi, xc)) (h1 : K1 = keepH m (joinP K (K'.take k)))
    (h2 : l1 = (T - sumP K) + (T' - sumP K') + sumP K + sumP (K'.take k) - sumP K1) :
    GoodP K1 ∧ (∀ p, p ∈ K1 → okP p) ∧ keepH m K1 = K1 ∧ K1.length ≤ K.length + K'.length ∧ 0 ≤ l1 ∧ l1 + sumP K1 + xc ≤ 9223372036854775807 ∧ 0 < xc ∧
      keepH m (addP K1 xi xc) = keepH m (joinP K (K'.take (k + 1))) ∧ l1 + sumP K1 + xc - sumP (keepH m (addP K1 xi xc)) = (T - sumP K) + (T' - sumP K') + sumP K + sumP (K'.take (k + 1)) - sumP (keepH m (addP K1 xi xc)) := by
  have hm : 0 < m := by have := hp.m1; omega
  have hx := good_each hp'.good hp'.ok _ (List.mem_of_getElem? hk)
  have hst := psum_step hk
  have ht0 := sumP_take (L := K') k (ok_pos hp'.ok)
  have ht1 := sumP_take (L := K') (k + 1) (ok_pos hp'.ok)
  have hq := hp.sum
  have hq' := hp'.sum
  have hlt : k < K'.length := (List.getElem?_eq_some_iff.1 hk).1
  have J := join_facts (K'.take k) K hp.good hp.ok (fun p h => good_each hp'.good hp'.ok p (List.mem_of_mem_take h)) (by omega)
  have hks := keeph_sum m (ok_pos J.ok)
  have hJs := J.sum
  have hJl := J.len
  rw [List.length_take] at hJl
  have hkl := keeph_le m (joinP K (K'.take k))
  have hcn := count_le_sum xi (ok_pos J.ok)
  have hx2 := hx.2
  simp only at hst hx2
  rw [← h1] at hks hkl
  refine ⟨by rw [h1]; exact keeph_good J.good, by rw [h1]; exact keeph_ok J.ok, by rw [h1]; exact keeph_idem hm J.good, by omega, by omega, by omega, hx2, ?_, by omega⟩
  rw [take_snocP hk, join_snoc, h1]
  exact keeph_add hm J.good (by omega) hx2

set_option maxRecDepth 1000000 in
set_option maxHeartbeats 4000000 in
theorem hlmerge_any {St : World → Nat → (Nat → Prop) → Int → List PairV → Prop} (D : StripDoes St) (w : World) (B : Nat) (S : Nat → Prop) (m : Int) (K : List PairV) (T : Int) (B' : Nat) (S' : Nat → Prop) (K' : List PairV) (T' : Int) (h : HighX St w B S m K T) (h' : HighX St w B' S' m K' T') (hd : B' = B ∨ ∀ k, S k → ¬ S' k) (hl : K.length ≤ 300) (hl' : K'.length ≤ 300) (hs : T + T' ≤ 9223372036854775807) :
    Calls Try.prog 29 #[.pointer (some ⟨B, 0, none⟩), .pointer (some ⟨B', 0, none⟩)] w fun e w' => e = .returned (.int .i64 0) ∧ ∃ S2, HighRaw St w' B S2 m (keepH m (joinP K K')) (T + T' - sumP (keepH m (joinP K K'))) ∧ Keeps S w w' ∧ (∀ k, S2 k → S k ∨ w.heap.size ≤ k) := by
  have HD := Lib.hid D
  have HX := Lib.hid h
  have HX' := Lib.hid h'
  obtain ⟨hp, C, S0, hb, hst, hn, hS⟩ := id h
  obtain ⟨hp', C', S0', hb', hst', hn', hS'⟩ := id h'
  obtain ⟨c0, c1, c2⟩ := three_cells hb
  obtain ⟨c0', c1', c2'⟩ := three_cells hb'
  have HP := Lib.hid hp
  have HP' := Lib.hid hp'
  have tt := hp.top
  have tt' := hp'.top
  have t0 : 0 ≤ T := by have := hp.pos; have := hp.sum; omega
  have t0' : 0 ≤ T' := by have := hp'.pos; have := hp'.sum; omega
  have HT : Hid (∀ w', Below w.heap.size w w' → Calls Try.prog 18 #[.pointer (some ⟨B, 0, none⟩)] w' fun e w'' => e = .returned (.int .u64 T) ∧ Below w'.heap.size w' w'') := Lib.hid (fun w' hw => hltotal_raw D ⟨h.1, hraw_call D h.2 hw⟩ (by omega))
  have HT' : Hid (∀ w', Below w.heap.size w w' → Calls Try.prog 18 #[.pointer (some ⟨B', 0, none⟩)] w' fun e w'' => e = .returned (.int .u64 T') ∧ Below w'.heap.size w' w'') := Lib.hid (fun w' hw => hltotal_raw D ⟨h'.1, hraw_call D h'.2 hw⟩ (by omega))
  obtain ⟨l, hll⟩ : ∃ l, T - sumP K = l := ⟨_, rfl⟩
  obtain ⟨l', hll'⟩ : ∃ l', T' - sumP K' = l' := ⟨_, rfl⟩
  rw [hll] at c2
  rw [hll'] at c2'
  have hl0 : 0 ≤ l := by have := hp.sum; omega
  have hl0' : 0 ≤ l' := by have := hp'.sum; omega
  have hl1 : l + l' ≤ 9223372036854775807 := by have := hp.pos; have := hp'.pos; omega
  have u1 : IntKind.u64.wrap (l + l') = l + l' := by rw [IntKind.wrap_u64]; omega
  obtain ⟨pb, pq⟩ := plus2_yes (x := T) (y := T') hs
  have PB := Lib.hid pb
  have PQ := Lib.hid pq
  have HLL := Lib.hid hll
  have HLL' := Lib.hid hll'
  have HB := Lib.hid hb
  have HB' := Lib.hid hb'
  have HDJ := Lib.hid hd
  have HL := Lib.hid hl
  have HL' := Lib.hid hl'
  have HSM := Lib.hid hs
  clear D h h' hp hp' hb hb' hst hst' hn hn' hS hS' hll hll' pb pq hd hl hl'
  go_enter Try.func29, Try.ntmps29
  go_wp2_with fail
  go_quiet (fail)
  have b1 := below_drewN (Below.refl w.heap.size w) nq
  have HB1 := Lib.hid b1
  clear b1 c0 c0'
  go_wp2_with fail
  refine (HT.out _ HB1.out).mono ?_
  rintro e w2 ⟨rfl, b2⟩
  have HB2 := Lib.hid (HB1.out.trans (b2.mono HB1.out.size))
  clear b2
  go_wp2_with fail
  refine (HT'.out _ HB2.out).mono ?_
  rintro e w3 ⟨rfl, b3⟩
  have HB3 := Lib.hid (HB2.out.trans (b3.mono HB2.out.size))
  clear b3
  go_wp2_with fail
  refine (plus_two T T' (T + T') true _ _ _ ⟨by omega, by omega⟩ ⟨by omega, by omega⟩ (two_words w3 _ _ _).1 (two_words w3 _ _ _).2 PQ.out PB.out).mono ?_
  rintro e w4 ⟨rfl, rfl⟩
  obtain ⟨Y, hY⟩ : ∃ Y, w3.alloc (.cells #[.int .u64 T, .int .u64 T'] 32) = Y := ⟨_, rfl⟩
  rw [hY]
  have bY : Below w.heap.size w Y := by rw [← hY]; exact HB3.out.alloc HB3.out.size _
  have y2 := cell_later bY c2
  have y2' := cell_later bY c2'
  have yf : Y.frozen? ⟨B, 2, none⟩ = false := free8 ((bY.block B (lt_of_block HB.out)).trans HB.out) 2
  have HBY := Lib.hid bY
  clear hY bY c1 c1' c2 c2'
  go_wp2_with fail
  go_region
  obtain ⟨Z, hZ⟩ : ∃ Z, (Y.setCell ⟨B, 2, none⟩ (.int .u64 (l + l'))).drew = Z := ⟨_, rfl⟩
  rw [hZ]
  have hBw := lt_of_block HB.out
  have hSlt : ∀ k, S k → k < w.heap.size := hraw_lt HD.out HX.out.2
  have zYZ : Z.heap.size = Y.heap.size := by rw [← hZ]; simp [World.drew, World.setCell]
  have zYw := HBY.out.size
  have kZ : Keeps S w Z := by
    rw [← hZ]
    exact ((Keeps.of_below HBY.out).set 2 _ (Or.inl (hraw_B HX.out.2))).trans (Keeps.of_below (S := S) ((Below.refl _ _).drew)) (fun j hj => Or.inl hj)
  have hdr : Below (Y.setCell ⟨B, 2, none⟩ (.int .u64 (l + l'))).heap.size (Y.setCell ⟨B, 2, none⟩ (.int .u64 (l + l'))) Z := by rw [← hZ]; exact (Below.refl _ _).drew
  have rZ : HighRaw St Z B S m K (l + l') := hraw_call HD.out (hraw_lost HD.out (hraw_call HD.out HX.out.2 HBY.out) (l + l')) hdr
  have rZ' : ∃ lx, HighRaw St Z B' S' m K' lx := by
    have h1 := hraw_call HD.out HX'.out.2 HBY.out
    rcases HDJ.out with e | hdis
    · have h2 := hraw_lost HD.out h1 (l + l')
      rw [e] at h2 ⊢
      exact ⟨_, hraw_call HD.out h2 hdr⟩
    · exact ⟨_, hraw_call HD.out (hraw_keep HD.out h1 (fun k hk => Below.heap_setCell _ _ _ _ (by show k ≠ B; rintro rfl; exact hdis k (hraw_B HX.out.2) hk))) hdr⟩
  have HPR : Hid (Calls Try.prog 15 #[.pointer (some ⟨B', 0, none⟩)] Z fun e w' => ∃ v, e = .returned v ∧ OwnP w' Z.heap.size v K' ∧ Below Z.heap.size Z w') := Lib.hid (by
    obtain ⟨lx, Cx, Sx, hbx, hstx, hnx, hSx⟩ := rZ'
    refine hlpairs_of Z _ _ _ (ownsh_at (three_cells hbx).2.1) (fun e w' h => ?_) (HD.out.pairs _ _ _ _ _ hstx (by have := HL'.out; omega))
    obtain ⟨v, rfl, ho, _⟩ := h
    obtain ⟨A, cap, rfl⟩ := ho.form
    exact ⟨A, _, cap, rfl⟩)
  have HRZ := Lib.hid rZ
  have HKZ := Lib.hid kZ
  have HSLT := Lib.hid hSlt
  clear hZ rZ rZ' kZ hdr hSlt y2 y2' yf u1
  go_wp2_with fail
  refine HPR.out.mono ?_
  rintro e w6 ⟨v6, rfl, ho6, b6⟩
  have hlt6 := ho6.lt
  obtain ⟨A6, cap6, rfl⟩ := ho6.form
  have z6 := b6.size
  have HR6 := Lib.hid (hraw_call HD.out HRZ.out b6)
  have HK6 : Hid (Keeps S w w6) := Lib.hid (HKZ.out.trans (Keeps.of_below (S := S) b6) (fun j hj => Or.inl hj))
  have HA6 : Hid (∀ g, (Value.slice A6 K'.length cap6).ownBlock = some g → Z.heap.size ≤ g ∧ g < w6.heap.size) := Lib.hid hlt6
  have HO6 := Lib.hid ho6
  have HLS : Hid (l + l' = (T - sumP K) + (T' - sumP K') + sumP K + sumP (K'.take 0) - sumP K) := Lib.hid (by rw [List.take_zero, sumP_nil, HLL.out, HLL'.out]; omega)
  have HK0 : Hid (K = keepH m (joinP K (K'.take 0))) := Lib.hid (by rw [List.take_zero, join_nil, HP.out.kept])
  obtain ⟨N, hN⟩ : ∃ N, K'.length = N := ⟨_, rfl⟩
  have HN := Lib.hid hN
  have hNb : N ≤ 300 := by have := HL'.out; omega
  clear ho6 b6 hlt6
  rw [hN]
  go_wp2_with fail
  go_loopw [49] (fun j wr => ∃ (k : Nat) (S1 : Nat → Prop) (K1 : List PairV) (l1 : Int), k ≤ N ∧ j = .int .i64 k ∧ HighRaw St wr B S1 m K1 l1 ∧ K1 = keepH m (joinP K (K'.take k)) ∧ l1 = (T - sumP K) + (T' - sumP K') + sumP K + sumP (K'.take k) - sumP K1 ∧
    Keeps S w wr ∧ (∀ x, S1 x → S x ∨ w6.heap.size ≤ x) ∧ OwnP wr Z.heap.size (.slice A6 K'.length cap6) K' ∧ w6.heap.size ≤ wr.heap.size) (fun j _ => N - (intOf j).toNat)
  case atStart => exact ⟨0, S, K, l + l', Nat.zero_le _, rfl, HR6.out, HK0.out, HLS.out, HK6.out, fun x hx => Or.inl hx, HO6.out, Nat.le_refl _⟩
  case round =>
    clear HR6 HO6 HLS HK0 HRZ HPR
    obtain ⟨k, S1, K1, l1, hk, rfl, hr, hk1, hl1', hkp, hs1, ho, hz⟩ := hrel
    have HR := Lib.hid hr
    have HK1 := Lib.hid hk1
    have HL1 := Lib.hid hl1'
    have HKP := Lib.hid hkp
    have HS1 := Lib.hid hs1
    have HO := Lib.hid ho
    clear hr hk1 hl1' hkp hs1
    by_cases hlt : k < N
    · have kk : (k : Int) < (N : Int) := by omega
      have hlt2 : k < K'.length := by rw [HN.out]; exact hlt
      have hxk : K'[k]? = some K'[k] := List.getElem?_eq_getElem hlt2
      generalize hit : K'[k] = x at *
      obtain ⟨xi, xc⟩ := x
      obtain ⟨A7, cap7, e7, hP7⟩ := ho.pairs HP'.out.ok
      obtain ⟨rfl, _, rfl⟩ := Value.slice.inj e7
      obtain ⟨b1, off, rfl, hbl, c0, c1⟩ := hP7.at_ k _ hxk
      simp only at c0 c1
      have hok := HP'.out.ok _ (List.mem_of_getElem? hxk)
      obtain ⟨f1, f2, f3, f4, f5, f6, f7, f8, f9⟩ := mh_step HP.out HP'.out HSM.out hxk HK1.out HL1.out
      have HOK := Lib.hid hok
      obtain ⟨⟨o1, o2⟩, o3, o4⟩ := hok
      simp only at o1 o2 o3 o4
      have HRA := Lib.hid (hraw_call HD.out HR.out ((Below.refl _ _).alloc (Nat.le_refl _) (.cells #[.int .i64 xi, .int .u64 xc] 34)))
      have HPUT := Lib.hid (hlput_any HD.out _ B S1 m K1 l1 xi xc HRA.out f1 f2 f3 (by have := HL.out; have := HL'.out; omega) HOK.out.1 f7 HP.out.m1 HP.out.m2 f5 f6)
      have HKA : Hid (Keeps S w (wr.alloc (.cells #[.int .i64 xi, .int .u64 xc] 34))) := Lib.hid (HKP.out.new _)
      have HOA : Hid (OwnP (wr.alloc (.cells #[.int .i64 xi, .int .u64 xc] 34)) Z.heap.size (.slice (some ⟨b1, off, none⟩) K'.length cap6) K') := Lib.hid (HO.out.alloc _)
      have HZA : Hid ((wr.alloc (.cells #[.int .i64 xi, .int .u64 xc] 34)).heap.size = wr.heap.size + 1) := Lib.hid (by simp)
      have HF8 := Lib.hid f8
      have HF9 := Lib.hid f9
      clear hxk hit ho hP7 e7 f1 f2 f3 f4 f5 f6 f7 f8 f9
      go_wp2_with fail
      refine HPUT.out.mono ?_
      rintro e w8 ⟨rfl, S2, hr2, k2, hs2⟩
      have HR2 := Lib.hid hr2
      have HK2 := Lib.hid k2
      have HS2 := Lib.hid hs2
      clear hr2 k2 hs2
      go_wp2_with fail
      go_roundw
      case rel =>
        refine ⟨k + 1, S2, _, _, by omega, by go_num, HR2.out, HF8.out, HF9.out, HKA.out.trans HK2.out (fun j hj => ?_), fun x hx => ?_, HK2.out.own HOA.out (fun g hg hx => ?_), by have := HK2.out.size; have := HZA.out; omega⟩
        · rcases HS1.out j hj with h | h
          · exact Or.inl h
          · have := HK6.out.size; exact Or.inr (by omega)
        · rcases HS2.out x hx with h | h
          · exact HS1.out x h
          · have := HZA.out; exact Or.inr (by omega)
        · have h1 := HA6.out g hg
          rcases HS1.out g hx with h | h
          · have := HSLT.out g h; omega
          · omega
      case measure => simp [intOf]; omega
    · obtain rfl : k = N := by omega
      have kk : ¬ (k : Int) < (k : Int) := by omega
      have hfin : K1 = keepH m (joinP K K') ∧ l1 = T + T' - sumP K1 := by
        have h1 := HK1.out
        have h2 := HL1.out
        rw [← HN.out, List.take_length] at h1 h2
        exact ⟨h1, by omega⟩
      obtain ⟨A7, cap7, e7, hP7⟩ := ho.pairs HP'.out.ok
      have HFIN := Lib.hid hfin
      clear hfin ho hP7 e7
      go_wp2_with fail
      go_ret
      refine ⟨rfl, S1, ?_, HKP.out, fun x hx => ?_⟩
      · have h1 := HR.out
        rw [HFIN.out.2, HFIN.out.1] at h1
        exact h1
      · rcases HS1.out x hx with h | h
        · exact Or.inl h
        · have := HK6.out.size; exact Or.inr (by omega)
end Go.Proofs.Ytgbhlkeclfgacaa
