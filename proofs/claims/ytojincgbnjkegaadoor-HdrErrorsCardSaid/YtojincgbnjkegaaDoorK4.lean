/-
  Texts joined, in build order: HdG, Ref10, CellI, CellF, Ref11, SpanA, RefN, RefP, CellB, RefQ, RefV, SkR, HdR, HdF, Open, OpenS, PairV, ValO, ValR, ValN, ValS, SpanL, SignB, SignC, HdV.
-/
import Derived.Test.YtojincgbnjkegaaDoorK3
import Derived.Deep.QuietTactic
import Derived.BigQuiet
import Derived.Test.YtojincgbnjkegaaDoorRows
import Derived.WalkKit
import Derived.WalkSpells
import Derived.WalkLawsBesides
import Derived.WalkMore
import Derived.LoopTactic
import Derived.OwnWalk
import Derived.OneCell
import Derived.Carry
import Derived.Laws.AppendOwnNone
import Derived.Deep.RegionWith
import Derived.Deep.RegionLaw
import Derived.Deep.AppendLies
import Derived.Lib.SmallJoins
import Derived.Deep.RegionHeld3
import Derived.ProofKit
import Derived.OpenShut
import Derived.SizedLaws
import Derived.Lib.AppendZerosOnto
import Derived.Laws.OwnMore
import Derived.Lib.LaidTab
import Derived.LaidMore
import Derived.Stop.Joined
import Derived.Laws.IdiomArrays
/-
  Walks: package hdr: room, merge, Join; nil ones.
-/
namespace Go.Proofs.YtojincgbnjkegaaDoor
set_option linter.unusedVariables false
set_option linter.unusedSimpArgs false
open Go.RowKit

set_option maxRecDepth 100000 in
set_option maxHeartbeats 2000000 in
theorem hd_room {St : World → Nat → (Nat → Prop) → Int → List PairV → Prop} (D : StripDoes St) (w : World) (C : Nat) (S : Nat → Prop) (K : List PairV) (A : Option Addr) (cap : Nat) (L : List PairV) (h : St w C S 4096 K) (hP : Pairs w A L) (hl : K.length + L.length ≤ 800) :
    Calls Tryd.prog 78 #[.pointer (some ⟨C, 0, none⟩), .slice A L.length cap] w fun e w' => e = .returned (.bool true) ∧ Below w.heap.size w w' := by
  have HD := Lib.hid D
  have HH := Lib.hid h
  have HP := Lib.hid hP
  have hkl : K.length ≤ 900 := by omega
  have HLN := Lib.hid (D.len w C S 4096 K h hkl)
  have HAT := Lib.hid (fun W (hb : Below w.heap.size w W) i (hi : I64 i) => D.at_ W C S 4096 K i (D.call h hb) hkl hi)
  obtain ⟨n, hn⟩ : ∃ n : Nat, L.length = n := ⟨_, rfl⟩
  obtain ⟨nk, hnk⟩ : ∃ nk : Nat, K.length = nk := ⟨_, rfl⟩
  rw [hn, hnk] at hl
  rw [hnk] at HLN
  rw [hn]
  have HN := Lib.hid hn
  clear h hP hn hnk D hkl
  go_enter Tryd.func78, Tryd.ntmps78
  go_wp2_with fail
  refine HLN.out.mono ?_
  rintro e w1 ⟨rfl, b1⟩
  go_wp2_with fail
  go_loopw [5, 12] (fun a j wr => ∃ k x : Nat, k ≤ n ∧ j = .int .i64 k ∧ a = .int .i64 x ∧ x ≤ nk + k ∧ Below w.heap.size w wr) (fun _ j _ => n - (intOf j).toNat)
  case atStart => exact ⟨0, nk, Nat.zero_le _, rfl, rfl, Nat.le_refl _, b1⟩
  case round =>
    clear b1
    obtain ⟨k, x, hk, rfl, rfl, hx, b2⟩ := hrel
    have hz := b2.size
    by_cases hlt : k < n
    · have kl : (k : Int) < n := by omega
      have hxk : L[k]? = some (L[k]'(by rw [HN.out]; exact hlt)) := List.getElem?_eq_getElem _
      generalize hit : L[k]'(by rw [HN.out]; exact hlt) = p at *
      obtain ⟨px, pc⟩ := p
      obtain ⟨bb, off, rfl, hbl, c0, c1⟩ := (HP.out.call b2).at_ k _ hxk
      have hok := HP.out.ok _ (List.mem_of_getElem? hxk)
      have HIX := Lib.hid hok.1
      obtain ⟨⟨o1, o2⟩, o3, o4⟩ := hok
      simp only at c0 c1 o1 o2 o3 o4 HIX
      have hbn : Below w.heap.size w (wr.alloc (.cells #[.int .i64 px, .int .u64 pc] 77)) := b2.alloc hz _
      have HBN := Lib.hid hbn
      have HA := Lib.hid (HAT.out _ hbn px HIX.out)
      generalize countP K px = cn at *
      clear hxk hit hbn
      by_cases hc : cn = 0
      · subst hc
        go_wp2_with fail
        refine HA.out.mono ?_
        rintro e w4 ⟨rfl, b4⟩
        have b5 := HBN.out.trans (b4.mono HBN.out.size)
        have HB5 := Lib.hid b5
        clear b4 b5
        go_wp2_with fail
        go_roundw
        case rel => exact ⟨k + 1, x + 1, by omega, by go_num, by go_num, by omega, HB5.out⟩
        case measure => simp [intOf]; omega
      · have hc1 : (cn == 0) = false := by simp [hc]
        go_wp2_with fail
        refine HA.out.mono ?_
        rintro e w4 ⟨rfl, b4⟩
        have b5 := HBN.out.trans (b4.mono HBN.out.size)
        have HB5 := Lib.hid b5
        clear b4 b5
        go_wp2_with fail
        go_roundw
        case rel => exact ⟨k + 1, x, by omega, by go_num, rfl, by omega, HB5.out⟩
        case measure => simp [intOf]; omega
    · obtain rfl : k = n := by omega
      have kl : ¬ (k : Int) < k := by omega
      have hx4 : (x : Int) ≤ 4096 := by omega
      go_wp2_with fail
      go_ret
      exact ⟨rfl, b2⟩

theorem own_new {w : World} {base n cap : Nat} {A : Option Addr} {L : List PairV} (h : OwnP w base (.slice A n cap) L) : ∀ b off, A = some ⟨b, off, none⟩ → base ≤ b := fun b off e => (h.lt b (by rw [e]; rfl)).1

set_option maxRecDepth 100000 in
set_option maxHeartbeats 4000000 in
theorem hd_merge {St : World → Nat → (Nat → Prop) → Int → List PairV → Prop} (D : StripDoes St) {w : World} {B B' : Nat} {S S' : Nat → Prop} {d d' : Int} {L L' : Nat} {lim lim' : Int} {h h' : Hd} (x : HdX St w B S d L lim h) (x' : HdX St w B' S' d' L' lim' h') (hLL : L' = L) (hdis : ∀ k, S k → ¬ S' k)
    (l1 : h.k1.length ≤ 300) (l2 : h.k2.length ≤ 300) (l3 : h'.k1.length ≤ 300) (l4 : h'.k2.length ≤ 300) (hsum : h.all + h'.all ≤ 9223372036854775807) :
    Calls Tryd.prog 54 #[.pointer (some ⟨B, 0, none⟩), .pointer (some ⟨B', 0, none⟩)] w fun e w' => e = .returned (.bool true) ∧ HdTo St w B S d L lim { h with k1 := joinP h.k1 h'.k1, k2 := joinP h.k2 h'.k2, z := h.z + h'.z } w' := by
  subst hLL
  have HD := Lib.hid D
  have HX := Lib.hid x
  have HX' := Lib.hid x'
  have HDIS := Lib.hid hdis
  obtain ⟨t, ht⟩ : ∃ t, h.all = t := ⟨_, rfl⟩
  obtain ⟨t', ht'⟩ : ∃ t', h'.all = t' := ⟨_, rfl⟩
  have HRW := Lib.hid (hd_rows D x' (by omega) (by omega))
  have HT := Lib.hid (fun W (hb : Below w.heap.size w W) => hd_total D (x.call D hb) (by omega) (by omega) t ht)
  have HT' := Lib.hid (fun W (hb : Below w.heap.size w W) => hd_total D (x'.call D hb) (by omega) (by omega) t' ht')
  obtain ⟨ho, hw, Sp, C1, C2, S1, S2, hr, hS⟩ := x
  obtain ⟨ho', hw', Sp', C1', C2', S1', S2', hr', hS'⟩ := x'
  have HR := Lib.hid hr
  have HS := Lib.hid hS
  have HO := Lib.hid ho
  have HW := Lib.hid hw
  obtain ⟨s1, s2⟩ := hd_sums D hr
  obtain ⟨s3, s4⟩ := hd_sums D hr'
  have hz := ho.z0
  have hz' := ho'.z0
  have htt : sumP h.k1 + h.z + sumP h.k2 = t := ht
  have htt' : sumP h'.k1 + h'.z + sumP h'.k2 = t' := ht'
  rw [ht, ht'] at hsum
  have st1 := D.stp _ _ _ _ _ hr.below
  have st2 := D.stp _ _ _ _ _ hr.above
  have st3 := D.stp _ _ _ _ _ hr'.below
  have st4 := D.stp _ _ _ _ _ hr'.above
  have J1 := join_facts h'.k1 h.k1 st1.good st1.ok (good_each st3.good st3.ok) (by omega)
  have J2 := join_facts h'.k2 h.k2 st2.good st2.ok (good_each st4.good st4.ok) (by omega)
  have jin : ∀ (Q K : List PairV), (∀ p, p ∈ K → 1 ≤ p.1 ∧ p.1 ≤ lastS L') → (∀ p, p ∈ Q → 1 ≤ p.1 ∧ p.1 ≤ lastS L') → ∀ p, p ∈ joinP K Q → 1 ≤ p.1 ∧ p.1 ≤ lastS L' := by
    intro Q
    induction Q with
    | nil => intro K hK _; exact hK
    | cons q r ih => intro K hK hQ; exact ih (addP K q.1 q.2) (addp_in hK (hQ q (by simp))) (fun p hp => hQ p (List.mem_cons_of_mem _ hp))
  have HI1 := Lib.hid (jin h'.k1 h.k1 ho.i1 ho'.i1)
  have HI2 := Lib.hid (jin h'.k2 h.k2 ho.i2 ho'.i2)
  have HJS := Lib.hid (And.intro J1.sum J2.sum)
  have HOK3 := Lib.hid st3.ok
  have HOK4 := Lib.hid st4.ok
  have HPS3 := Lib.hid (fun p hp => (good_each st3.good st3.ok p hp).2)
  have HPS4 := Lib.hid (fun p hp => (good_each st4.good st4.ok p hp).2)
  have P1 : Hid (plus2B t t' = true) := Lib.hid (by unfold plus2B; apply decide_eq_true; omega)
  have P2 : Hid (plus2Q t t' = t + t') := Lib.hid (by unfold plus2Q; rw [P1.out]; rfl)
  have PB1 : Hid (pourB h.k1 h'.k1 = true) := Lib.hid (by unfold pourB; apply decide_eq_true; omega)
  have PB2 : Hid (pourB h.k2 h'.k2 = true) := Lib.hid (by unfold pourB; apply decide_eq_true; omega)
  have hlt := hr.lt D
  have hBw := lt_of_block hr.blk
  have hBw' := lt_of_block hr'.blk
  have hBB : ¬ B = B' := fun e => hdis B ((hS B).2 (Or.inl rfl)) ((hS' B).2 (Or.inl e))
  have HLT := Lib.hid hlt
  have HC := Lib.hid hr.cells
  have HC' := Lib.hid hr'.cells
  have HSB' := Lib.hid ((hS' B').2 (Or.inl rfl))
  obtain ⟨n3, hn3⟩ : ∃ n : Nat, h'.k1.length = n := ⟨_, rfl⟩
  obtain ⟨n4, hn4⟩ : ∃ n : Nat, h'.k2.length = n := ⟨_, rfl⟩
  have hl13 : h.k1.length + h'.k1.length ≤ 800 := by omega
  have hl24 : h.k2.length + h'.k2.length ≤ 800 := by omega
  have HL13 := Lib.hid hl13
  have HL24 := Lib.hid hl24
  have HN3 := Lib.hid hn3
  have HN4 := Lib.hid hn4
  clear hr hr' hS hS' ho ho' st1 st2 st3 st4 J1 J2 jin hlt D ht ht' hdis hw hw' hn3 hn4 hl13 hl24
  go_enter Tryd.func54, Tryd.ntmps54
  go_wp2_with fail
  refine HRW.out.mono ?_
  rintro e w1 ⟨v1, v2, rfl, ho1, ho2, b1⟩
  obtain ⟨A1, k1, rfl, hp1⟩ := ho1.pairs HOK3.out
  obtain ⟨A2, k2, rfl, hp2⟩ := ho2.pairs HOK4.out
  have HN1 := Lib.hid (own_new ho1)
  have HN2 := Lib.hid (own_new ho2)
  have HP1 := Lib.hid hp1
  have HP2 := Lib.hid hp2
  rw [HN3.out, HN4.out]
  clear ho1 ho2 hp1 hp2 HRW
  go_wp2_with fail
  refine (HT.out _ b1).mono ?_
  rintro e w2 ⟨rfl, b2'⟩
  have b2 := b1.trans (b2'.mono b1.size)
  have HP1 := Lib.hid (HP1.out.call b2')
  have HP2 := Lib.hid (HP2.out.call b2')
  clear b2' b1
  go_wp2_with fail
  refine (HT'.out _ b2).mono ?_
  rintro e w3 ⟨rfl, b3'⟩
  have b3 := b2.trans (b3'.mono b2.size)
  have hb4 : Below w3.heap.size w3 (w3.alloc (.cells #[.int .u64 t, .int .u64 t'] 23)) := (Below.refl _ _).alloc (Nat.le_refl _) _
  have HP1 := Lib.hid ((HP1.out.call b3').call hb4)
  have HP2 := Lib.hid ((HP2.out.call b3').call hb4)
  have b4 := b3.trans (hb4.mono b3.size)
  have HB4 := Lib.hid b4
  clear b3' b2 b3 hb4 b4
  go_wp2_with fail
  refine (plus_two t t' (t + t') true _ _ _ ⟨by omega, by omega⟩ ⟨by omega, by omega⟩ (hd_two w3 _ _ _).1 (hd_two w3 _ _ _).2 P2.out P1.out).mono ?_
  generalize w3.alloc (.cells #[.int .u64 t, .int .u64 t'] 23) = w4 at *
  rintro e w5 ⟨rfl, rfl⟩
  have q3 := (HC.out.call HB4.out).c3
  have hst1 := HD.out.call HR.out.below HB4.out
  have HRM1 := Lib.hid (HN3.out ▸ hd_room HD.out w4 C1 S1 h.k1 A1 k1 h'.k1 hst1 HP1.out HL13.out)
  clear hst1
  go_wp2_with fail
  refine HRM1.out.mono ?_
  rintro e w5 ⟨rfl, b5'⟩
  have b5 := HB4.out.trans (b5'.mono HB4.out.size)
  have HP1 := Lib.hid (HP1.out.call b5')
  have HP2 := Lib.hid (HP2.out.call b5')
  have q4 := (HC.out.call b5).c4
  have hst2 := HD.out.call HR.out.above b5
  have HRM2 := Lib.hid (HN4.out ▸ hd_room HD.out w5 C2 S2 h.k2 A2 k2 h'.k2 hst2 HP2.out HL24.out)
  have HB5 := Lib.hid b5
  clear hst2 b5' b5 q3 HRM1 HB4
  go_wp2_with fail
  refine HRM2.out.mono ?_
  rintro e w6 ⟨rfl, b6'⟩
  have b6 := HB5.out.trans (b6'.mono HB5.out.size)
  have HP1 := Lib.hid (HP1.out.call b6')
  have HP2 := Lib.hid (HP2.out.call b6')
  have q3 := (HC.out.call b6).c3
  have hr6 := HR.out.keep HD.out (w' := w6) fun k hk => b6.block k (HLT.out k hk)
  have hnS : ∀ k, w.heap.size ≤ k → ¬ hdS B Sp S1 S2 k := fun k hk hh => by have := HLT.out k hh; omega
  have HNS := Lib.hid hnS
  have HPO1 := Lib.hid (HN3.out ▸ hd_pour HD.out w6 C1 S1 h.k1 A1 k1 h'.k1 hr6.below HP1.out HPS3.out (fun b off e _ hh => hnS b (HN1.out b off e) (Or.inr (Or.inr (Or.inl hh)))) HL13.out true PB1.out)
  have HR6 := Lib.hid hr6
  have HB6 := Lib.hid b6
  clear hr6 hnS b6' b6 q4 HRM2 HB5
  go_wp2_with fail
  refine HPO1.out.mono ?_
  rintro e w7 ⟨rfl, hk7, hto7⟩
  obtain ⟨S1n, hst7, hS7⟩ := hto7 rfl
  have hr7 := HR6.out.turn1 HD.out hk7 hst7 hS7
  have HP2 := Lib.hid (hd_pairs HP2.out hk7 (fun b off e _ hh => HNS.out b (HN2.out b off e) (Or.inr (Or.inr (Or.inl hh)))))
  have q4 := hr7.cells.c4
  have hz6 := HB6.out.size
  have hsb : ∀ b off, A2 = some ⟨b, off, none⟩ → h'.k2 ≠ [] → ¬ S2 b := fun b off e _ hh => HNS.out b (HN2.out b off e) (Or.inr (Or.inr (Or.inr hh)))
  have HPO2 := Lib.hid (HN4.out ▸ hd_pour HD.out w7 C2 S2 h.k2 A2 k2 h'.k2 hr7.above HP2.out HPS4.out hsb HL24.out true PB2.out)
  have HR7 := Lib.hid hr7
  have HK7 := Lib.hid hk7
  have HS7 := Lib.hid hS7
  clear hto7 hst7 hS7 hk7 hr7 hsb q3 HPO1
  go_wp2_with fail
  refine HPO2.out.mono ?_
  rintro e w8 ⟨rfl, hk8, hto8⟩
  obtain ⟨S2n, hst8, hS8⟩ := hto8 rfl
  have hr8 := HR7.out.turn2 HD.out hk8 hst8 hS8
  have q5 : w8.cell? ⟨B, 5, none⟩ = some (.int .u64 h.z) := hr8.cells.c5
  have f5 : w8.frozen? ⟨B, 5, none⟩ = false := Joins.unfrozen_of_block hr8.blk 5
  have hz7 := HK7.out.size
  have hz8 := hk8.size
  have hks : Keeps S w w8 := keeps_then (Keeps.of_below HB6.out) (keeps_then (S := S) (keeps_then (S := S) (Keeps.refl S w6) HK7.out (fun k _ hh => (HS.out k).2 (Or.inr (Or.inr (Or.inl hh))))) hk8 (fun k _ hh => (HS.out k).2 (Or.inr (Or.inr (Or.inr hh))))) (fun k _ hh => hh)
  have hx8 := HX'.out.past HD.out hks (fun k hk hh => HDIS.out k hh hk)
  obtain ⟨_, _, _, _, _, _, _, hr8', _⟩ := hx8
  have q5' : w8.cell? ⟨B', 5, none⟩ = some (.int .u64 h'.z) := hr8'.cells.c5
  have hSn : ∀ k, hdS B Sp S1n S2n k → S k ∨ w.heap.size ≤ k := fun k hk => by
    rcases hk with e | e | e | e
    · exact Or.inl ((HS.out k).2 (Or.inl e))
    · exact Or.inl ((HS.out k).2 (Or.inr (Or.inl e)))
    · rcases HS7.out k e with a | a
      · exact Or.inl ((HS.out k).2 (Or.inr (Or.inr (Or.inl a))))
      · exact Or.inr (by omega)
    · rcases hS8 k e with a | a
      · exact Or.inl ((HS.out k).2 (Or.inr (Or.inr (Or.inr a))))
      · exact Or.inr (by omega)
  have fin : ∀ W, Below w8.heap.size w8 W → HdTo St w B S d L' lim { h with k1 := joinP h.k1 h'.k1, k2 := joinP h.k2 h'.k2, z := h.z + h'.z } (W.setCell ⟨B, 5, none⟩ (.int .u64 (h.z + h'.z))) := fun W hb => by
    have hrW := hr8.keep HD.out (w' := W) fun k hk => hb.block k (hr8.lt HD.out k hk)
    have hne : ∀ k, k ≠ B → (W.setCell ⟨B, 5, none⟩ (.int .u64 (h.z + h'.z))).heap[k]? = W.heap[k]? := fun k hk => Below.heap_setCell _ _ _ k hk
    refine ⟨hdS B Sp S1n S2n, ⟨⟨HI1.out, HI2.out, by show 0 ≤ h.z + h'.z; omega, ?_, HO.out.lo, HO.out.hi⟩, HW.out, Sp, C1, C2, S1n, S2n, ⟨?_, ?_, ?_, ?_, hrW.n1, hrW.n2, hrW.n3⟩, fun k => Iff.rfl⟩, keeps_then hks (keeps_then (S := S) (Keeps.of_below hb) (keeps_put (S := S) ((HS.out B).2 (Or.inl rfl))) (fun k _ hh => hh)) (fun k _ hh => hh), hSn⟩
    · show sumP (joinP h.k1 h'.k1) + (h.z + h'.z) + sumP (joinP h.k2 h'.k2) ≤ _; rw [HJS.out.1, HJS.out.2]; omega
    · rw [Joins.block_setCell hrW.blk]; rfl
    · exact spx_keep hrW.sp (hne Sp (fun e => hrW.n1.2.2 e.symm))
    · exact HD.out.keep _ _ _ _ _ _ hrW.below fun k hk => hne k (fun e => hrW.n1.1 (e ▸ hk))
    · exact HD.out.keep _ _ _ _ _ _ hrW.above fun k hk => hne k (fun e => hrW.n1.2.1 (e ▸ hk))
  have FIN := Lib.hid fin
  have uz : IntKind.u64.wrap (h.z + h'.z) = h.z + h'.z := by rw [IntKind.wrap_u64]; omega
  clear fin hSn hks hr8 hr8' hto8 hst8 hS8 hk8 q4 HPO2
  go_wp2_with fail
  go_region
  all_goals go_wp2_with fail
  all_goals go_ret
  all_goals exact ⟨rfl, FIN.out _ ((Below.refl _ _).drew)⟩

set_option maxHeartbeats 400000 in
theorem hd_join_nil (w : World) (p : Option Addr) : Calls Tryd.prog 24 #[.pointer none, .pointer p] w fun e w' => e = .returned (.int .i64 2) ∧ Below w.heap.size w w' := by
  go_enter Tryd.func24, Tryd.ntmps24
  go_wp2_with fail
  go_ret
  exact ⟨rfl, Below.refl _ _⟩

set_option maxHeartbeats 1000000 in
theorem hd_join_match {w : World} {B B' : Nat} {d d' : Int} (c0 : w.cell? ⟨B, 0, none⟩ = some (.int .i64 d)) (e0 : w.cell? ⟨B', 0, none⟩ = some (.int .i64 d')) (hd : d ≠ d') :
    Calls Tryd.prog 24 #[.pointer (some ⟨B, 0, none⟩), .pointer (some ⟨B', 0, none⟩)] w fun e w' => e = .returned (.int .i64 8) ∧ Below w.heap.size w w' := by
  have hd1 : (d == d') = false := by simp [hd]
  go_enter Tryd.func24, Tryd.ntmps24
  go_wp2_with fail
  go_quiet (fail)
  go_wp2_with fail
  go_ret
  exact ⟨rfl, below_drewN (Below.refl _ _) _⟩

set_option maxHeartbeats 1000000 in
theorem hd_join_none {St : World → Nat → (Nat → Prop) → Int → List PairV → Prop} (D : StripDoes St) {w : World} {B B' : Nat} {S S' : Nat → Prop} {d : Int} {L L' : Nat} {lim lim' : Int} {h h' : Hd} (x : HdX St w B S d L lim h) (x' : HdX St w B' S' d L' lim' h')
    (l3 : h'.k1.length ≤ 300) (l4 : h'.k2.length ≤ 300) (hz : h'.all = 0) :
    Calls Tryd.prog 24 #[.pointer (some ⟨B, 0, none⟩), .pointer (some ⟨B', 0, none⟩)] w fun e w' => e = .returned (.int .i64 0) ∧ Below w.heap.size w w' := by
  have HE := Lib.hid (fun W (hb : Below w.heap.size w W) => hd_ends D (x'.call D hb) (by omega) (by omega) 0 0 false (by unfold endsH; rw [if_pos hz]))
  obtain ⟨ho, hw, Sp, C1, C2, S1, S2, hr, hS⟩ := x
  obtain ⟨ho', hw', Sp', C1', C2', S1', S2', hr', hS'⟩ := x'
  have c0 := hr.cells.c0
  have e0 := hr'.cells.c0
  clear hr hr' hS hS' ho ho' hz
  go_enter Tryd.func24, Tryd.ntmps24
  go_wp2_with fail
  go_quiet (fail)
  have b1 := below_drewN (Below.refl w.heap.size w) nq
  generalize w.drewN nq = w1 at *
  go_wp2_with fail
  refine (HE.out _ b1).mono ?_
  rintro e w2 ⟨rfl, b2⟩
  have b2 := b1.trans (b2.mono b1.size)
  go_wp2_with fail
  go_ret
  exact ⟨rfl, b2⟩

set_option maxHeartbeats 1000000 in
theorem hd_join_range {St : World → Nat → (Nat → Prop) → Int → List PairV → Prop} (D : StripDoes St) {w : World} {B B' : Nat} {S S' : Nat → Prop} {d : Int} {L L' : Nat} {lim lim' : Int} {h h' : Hd} (x : HdX St w B S d L lim h) (x' : HdX St w B' S' d L' lim' h')
    (l3 : h'.k1.length ≤ 300) (l4 : h'.k2.length ≤ 300) (hz : h'.all ≠ 0) (hr0 : takB lim h'.lo = false ∨ takB lim h'.hi = false) :
    Calls Tryd.prog 24 #[.pointer (some ⟨B, 0, none⟩), .pointer (some ⟨B', 0, none⟩)] w fun e w' => e = .returned (.int .i64 7) ∧ Below w.heap.size w w' := by
  have HE := Lib.hid (fun W (hb : Below w.heap.size w W) => hd_ends D (x'.call D hb) (by omega) (by omega) h'.lo h'.hi true (by unfold endsH; rw [if_neg hz]))
  obtain ⟨ho, hw, Sp, C1, C2, S1, S2, hr, hS⟩ := x
  obtain ⟨ho', hw', Sp', C1', C2', S1', S2', hr', hS'⟩ := x'
  have c0 := hr.cells.c0
  have e0 := hr'.cells.c0
  have c1 := hr.cells.c1
  obtain ⟨ba, hba⟩ : ∃ ba, takB lim h'.lo = ba := ⟨_, rfl⟩
  obtain ⟨bb, hbb⟩ : ∃ bb, takB lim h'.hi = bb := ⟨_, rfl⟩
  have HTA := Lib.hid (fun W (hb : Below w.heap.size w W) => hd_takes (cell_later hb c1) h'.lo ho'.lo ba hba)
  have HTB := Lib.hid (fun W (hb : Below w.heap.size w W) => hd_takes (cell_later hb c1) h'.hi ho'.hi bb hbb)
  rw [hba, hbb] at hr0
  clear hr hr' hS hS' ho ho' hz hba hbb c1
  generalize h'.lo = lo' at *
  generalize h'.hi = hi' at *
  by_cases hA : ba = false
  · subst hA
    go_enter Tryd.func24, Tryd.ntmps24
    go_wp2_with fail
    go_quiet (fail)
    have b1 := below_drewN (Below.refl w.heap.size w) nq
    generalize w.drewN nq = w1 at *
    go_wp2_with fail
    refine (HE.out _ b1).mono ?_
    rintro e w2 ⟨rfl, b2⟩
    have b2 := b1.trans (b2.mono b1.size)
    go_wp2_with fail
    refine (HTA.out _ b2).mono ?_
    rintro e w3 ⟨rfl, b3⟩
    have b3 := b2.trans (b3.mono b2.size)
    go_wp2_with fail
    go_ret
    exact ⟨rfl, b3⟩
  · obtain rfl : ba = true := by simpa using hA
    obtain rfl : bb = false := by rcases hr0 with h0 | h0; cases h0; exact h0
    clear hA hr0
    go_enter Tryd.func24, Tryd.ntmps24
    go_wp2_with fail
    go_quiet (fail)
    have b1 := below_drewN (Below.refl w.heap.size w) nq
    generalize w.drewN nq = w1 at *
    go_wp2_with fail
    refine (HE.out _ b1).mono ?_
    rintro e w2 ⟨rfl, b2⟩
    have b2 := b1.trans (b2.mono b1.size)
    go_wp2_with fail
    refine (HTA.out _ b2).mono ?_
    rintro e w3 ⟨rfl, b3⟩
    have b3 := b2.trans (b3.mono b2.size)
    go_wp2_with fail
    refine (HTB.out _ b3).mono ?_
    rintro e w4 ⟨rfl, b4⟩
    have b4 := b3.trans (b4.mono b3.size)
    go_wp2_with fail
    go_ret
    exact ⟨rfl, b4⟩

set_option maxHeartbeats 2000000 in
theorem hd_join_ok {St : World → Nat → (Nat → Prop) → Int → List PairV → Prop} (D : StripDoes St) {w : World} {B B' : Nat} {S S' : Nat → Prop} {d : Int} {L L' : Nat} {lim lim' : Int} {h h' : Hd} (x : HdX St w B S d L lim h) (x' : HdX St w B' S' d L' lim' h') (hLL : L' = L) (hdis : ∀ k, S k → ¬ S' k)
    (l1 : h.k1.length ≤ 300) (l2 : h.k2.length ≤ 300) (l3 : h'.k1.length ≤ 300) (l4 : h'.k2.length ≤ 300) (hsum : h.all + h'.all ≤ 9223372036854775807) (hz : h'.all ≠ 0) (ha : takB lim h'.lo = true) (hb' : takB lim h'.hi = true) :
    Calls Tryd.prog 24 #[.pointer (some ⟨B, 0, none⟩), .pointer (some ⟨B', 0, none⟩)] w fun e w' => e = .returned (.int .i64 0) ∧ HdTo St w B S d L lim (hdJoin h h') w' := by
  have HD := Lib.hid D
  have HE' := Lib.hid (fun W (hb : Below w.heap.size w W) => hd_ends D (x'.call D hb) (by omega) (by omega) h'.lo h'.hi true (by unfold endsH; rw [if_neg hz]))
  obtain ⟨a, b, hab, _⟩ := endsh_some h
  have HE := Lib.hid (fun W (hb : Below w.heap.size w W) => hd_ends D (x.call D hb) (by omega) (by omega) a b _ hab)
  have HM := Lib.hid (fun W (hb : Below w.heap.size w W) => hd_merge D (x.call D hb) (x'.call D hb) hLL hdis l1 l2 l3 l4 hsum)
  obtain ⟨ho, hw, Sp, C1, C2, S1, S2, hr, hS⟩ := x
  obtain ⟨ho', hw', Sp', C1', C2', S1', S2', hr', hS'⟩ := x'
  have c0 := hr.cells.c0
  have e0 := hr'.cells.c0
  have c1 := hr.cells.c1
  have HTA := Lib.hid (fun W (hb : Below w.heap.size w W) => hd_takes (cell_later hb c1) h'.lo ho'.lo true ha)
  have HTB := Lib.hid (fun W (hb : Below w.heap.size w W) => hd_takes (cell_later hb c1) h'.hi ho'.hi true hb')
  have HLO := Lib.hid ho'.lo
  have HHI := Lib.hid ho'.hi
  have HJ : Hid (hdJoin h h' = { ({ h with k1 := joinP h.k1 h'.k1, k2 := joinP h.k2 h'.k2, z := h.z + h'.z } : Hd) with lo := reLo (!(h.all == 0)) h'.lo h.lo, hi := reHi (!(h.all == 0)) h'.hi h.hi }) := Lib.hid rfl
  generalize (!(h.all == 0)) = sm at *
  have HM2 : Hid (∀ W, Below w.heap.size w W → Calls Tryd.prog 54 #[.pointer (some ⟨B, 0, none⟩), .pointer (some ⟨B', 0, none⟩)] W fun e w' => e = .returned (.bool true) ∧ HdTo St W B S d L lim { h with k1 := joinP h.k1 h'.k1, k2 := joinP h.k2 h'.k2, z := h.z + h'.z } w') := Lib.hid HM.out
  rw [HJ.out]
  generalize hjj : ({ h with k1 := joinP h.k1 h'.k1, k2 := joinP h.k2 h'.k2, z := h.z + h'.z } : Hd) = hj at *
  have hjl : hj.lo = h.lo ∧ hj.hi = h.hi := by rw [← hjj]; exact ⟨rfl, rfl⟩
  rw [← hjl.1, ← hjl.2]
  clear hr hr' hS hS' ho ho' hz c1 ha hb' hab hsum hdis HM HJ hjj hjl D
  generalize h'.lo = lo' at *
  generalize h'.hi = hi' at *
  go_enter Tryd.func24, Tryd.ntmps24
  go_wp2_with fail
  go_quiet (fail)
  have b1 := below_drewN (Below.refl w.heap.size w) nq
  generalize w.drewN nq = w1 at *
  go_wp2_with fail
  refine (HE'.out _ b1).mono ?_
  rintro e w2 ⟨rfl, b2⟩
  have b2 := b1.trans (b2.mono b1.size)
  go_wp2_with fail
  refine (HTA.out _ b2).mono ?_
  rintro e w3 ⟨rfl, b3⟩
  have b3 := b2.trans (b3.mono b2.size)
  go_wp2_with fail
  refine (HTB.out _ b3).mono ?_
  rintro e w4 ⟨rfl, b4⟩
  have b4 := b3.trans (b4.mono b3.size)
  go_wp2_with fail
  refine (HE.out _ b4).mono ?_
  rintro e w5 ⟨rfl, b5⟩
  have b5 := b4.trans (b5.mono b4.size)
  go_wp2_with fail
  refine (HM2.out _ b5).mono ?_
  rintro e w6 ⟨rfl, ht⟩
  obtain ⟨S6, hx6, hk6, hS6⟩ := ht
  have HX6 := Lib.hid hx6
  have HK6 := Lib.hid hk6
  have HS6 := Lib.hid hS6
  have HB5 := Lib.hid b5
  clear hx6 hk6 hS6 b5 b4 b3 b2 b1
  go_wp2_with fail
  refine (hd_reach HD.out HX6.out lo' hi' sm HLO.out HHI.out).mono ?_
  rintro e w7 ⟨rfl, ht7⟩
  have HT7 := Lib.hid (HdTo.after HB5.out (HdTo.then HK6.out HS6.out ht7))
  clear ht7
  go_wp2_with fail
  go_ret
  exact ⟨rfl, HT7.out⟩
end Go.Proofs.YtojincgbnjkegaaDoor

/-
  Walks: layer 9's reference: end, keeps, Kept, Lost, Find.
-/
namespace Go.Proofs.YtojincgbnjkegaaDoor
set_option linter.unusedVariables false
set_option linter.unusedSimpArgs false
open Go.RowKit

end Go.Proofs.YtojincgbnjkegaaDoor
/-
  Rows of cells, and rows of words, of the call's own: read, kept, appended to.
-/
namespace Go.Proofs.YtojincgbnjkegaaDoor
set_option linter.unusedVariables false
set_option linter.unusedSimpArgs false
open Go.RowKit

/-- A cell: where it ends, and what stands for it. -/
abbrev CellV := Int × Int
def cellsC (p : CellV) : List Value := [.int .u64 p.1, .int .u64 p.2]
def cellsR (L : List CellV) : List Value := L.flatMap cellsC
theorem cellsR_cons (p : CellV) (r : List CellV) : cellsR (p :: r) = cellsC p ++ cellsR r := by unfold cellsR; rw [List.flatMap_cons]
theorem cellsR_app (a b : List CellV) : cellsR (a ++ b) = cellsR a ++ cellsR b := by unfold cellsR; rw [List.flatMap_append]
theorem cellsR_one' (p : CellV) : cellsR [p] = [.int .u64 p.1, .int .u64 p.2] := by unfold cellsR cellsC; simp
theorem cellsR_len (L : List CellV) : (cellsR L).length = L.length * 2 := by
  induction L with
  | nil => rfl
  | cons p r ih => rw [cellsR_cons, List.length_append, ih, List.length_cons]; simp [cellsC]; omega
theorem cellsR_one (L : List CellV) : ∀ u ∈ cellsR L, u.oneCell' = true := by
  intro u hu
  unfold cellsR at hu
  obtain ⟨p, _, h⟩ := List.mem_flatMap.1 hu
  simp only [cellsC, List.mem_cons, List.not_mem_nil, or_false] at h
  rcases h with rfl | rfl <;> rfl
theorem cellsR_at : ∀ (L : List CellV) (i : Nat) (p : CellV), L[i]? = some p → (cellsR L)[i * 2]? = some (.int .u64 p.1) ∧ (cellsR L)[i * 2 + 1]? = some (.int .u64 p.2) := by
  intro L
  induction L with
  | nil => intro i p h; simp at h
  | cons q r ih =>
    intro i p h
    rw [cellsR_cons]
    cases i with
    | zero => simp at h; subst h; simp [cellsC]
    | succ i =>
      have hr := ih i p (by simpa using h)
      have e : ∀ j, (cellsC q ++ cellsR r)[(i + 1) * 2 + j]? = (cellsR r)[i * 2 + j]? := by
        intro j
        rw [List.getElem?_append_right (by simp [cellsC]; omega)]
        congr 1
        simp [cellsC]; omega
      exact ⟨(e 0).trans hr.1, (e 1).trans hr.2⟩

theorem addr_flat (b off j : Nat) : (⟨b, off, none⟩ : Addr).add j = ⟨b, off + j, none⟩ := by unfold Addr.add; split <;> simp_all

/-- A row of the call's own that holds words. -/
def wordsL (L : List Int) : List Value := L.map (Value.int .u64)
theorem Tryd.infoWordC : (Tryd.prog.info? 23).map (fun i => (i.zero, i.size, i.bytes)) = some (some (.int .u64 0), 1, 8) := by kernel_rfl
def OwnW (w : World) (base : Nat) (v : Value) (L : List Int) : Prop := w.ownsRow base 23 1 v L.length (wordsL L)
theorem OwnW.nil (w : World) (base : Nat) : OwnW w base (.slice none 0 0) [] := World.ownsRow_nil _ _ _ _
theorem OwnW.call {w w' : World} {base : Nat} {v : Value} {L : List Int} (h : OwnW w base v L) (hb : Below w.heap.size w w') : OwnW w' base v L :=
  World.ownsRow.kept (row := none) h ⟨hb.os, hb.tape, hb.output, hb.size, fun i hi _ => hb.block i hi⟩ (by cases v.ownBlock <;> simp)
theorem OwnW.other {w w' : World} {base : Nat} {v : Value} {L : List Int} {r : Option Nat} (h : OwnW w base v L) (hg : w.grownBy w' r) (hne : v.ownBlock = none ∨ v.ownBlock ≠ r) : OwnW w' base v L := World.ownsRow.kept h hg hne
theorem OwnW.alloc {w : World} {base : Nat} {v : Value} {L : List Int} (h : OwnW w base v L) (o : Obj) : OwnW (w.alloc o) base v L := World.ownsRow.alloc h o
theorem OwnW.lt {w : World} {base : Nat} {v : Value} {L : List Int} (h : OwnW w base v L) : ∀ k, v.ownBlock = some k → base ≤ k ∧ k < w.heap.size := World.ownsRow.lt h
theorem OwnW.form {w : World} {base : Nat} {v : Value} {L : List Int} (h : OwnW w base v L) : ∃ A cap, v = .slice A L.length cap := by
  have h' : w.ownsRow base 23 1 v L.length (wordsL L) := h
  rcases h'.2 with ⟨rfl, h0⟩ | ⟨g, cap, cur, rfl, _⟩
  · exact ⟨none, 0, by rw [h0]⟩
  · exact ⟨_, _, rfl⟩
theorem OwnW.form_at {w : World} {base n : Nat} {v : Value} {L : List Int} (h : OwnW w base v L) (hn : L.length = n) : ∃ A cap, v = .slice A n cap := by subst hn; exact h.form
theorem OwnW.below {a w w' : World} {base : Nat} {v : Value} {L : List Int} (h : OwnW w base v L) (hb : Below base a w) (hg : w.grownBy w' v.ownBlock) (hs : base ≤ w.heap.size) : Below base a w' := hb.grown hg hs (fun k hk => (h.lt k hk).1)
theorem OwnW.at_ {w : World} {base n cap : Nat} {A : Option Addr} {L : List Int} (h : OwnW w base (.slice A n cap) L) {i : Nat} {x : Int} (hi : L[i]? = some x) :
    ∃ g, A = some ⟨g, 0, none⟩ ∧ g < w.heap.size ∧ w.cell? ⟨g, i, none⟩ = some (.int .u64 x) := by
  have hh : w.ownsRow base 23 1 (.slice A n cap) L.length (wordsL L) := h
  rcases hh.2 with ⟨e, h0⟩ | ⟨g, cap', cur, e, hb, hg, r⟩
  · have : L = [] := List.eq_nil_of_length_eq_zero h0
    subst this; simp at hi
  · have e' := e
    injection e' with e1 e2 e3
    subst e1
    refine ⟨g, rfl, lt_of_block hg, ?_⟩
    have hc := hh.cells (g := g) rfl
    have a := hc i (.int .u64 x) (by unfold wordsL; rw [List.getElem?_map, hi]; rfl)
    rw [addr_flat, Nat.zero_add] at a
    exact a
theorem wpList_append_word {w : World} {ops : Array Oper} {rest : List Oper} {o : Oper} {a : Act} {Q : Exit → Act → World → Prop} (hgd : o.guard = none) (s x : Operand)
    (ho : o.op = .call { callee := .builtin .append, args := #[s, x], argTypes := #[57, 57] })
    (base : Nat) (v : Value) (L : List Int) (n : Nat) (hln : L.length = n) (g : Nat) (p : Int) (hs : a.eval s = v) (hown : OwnW w base v L)
    (hx : a.eval x = .slice (some ⟨g, 0, none⟩) 1 1) (h0 : w.cell? ⟨g, 0, none⟩ = some (.int .u64 p)) (hn : n ≤ 100000) (hbase : base ≤ w.heap.size)
    (h : ∀ g' cap w', OwnW w' base (.slice (some ⟨g', 0, none⟩) (n + 1) cap) (L ++ [p]) → w.grownBy w' v.ownBlock → (v.ownBlock = some g' ∨ g' = w.heap.size) → wpList Tryd.prog ops Q rest (a.put o.dst (.slice (some ⟨g', 0, none⟩) (n + 1) cap)) w') : wpList Tryd.prog ops Q (o :: rest) a w := by
  subst hln
  obtain ⟨i0, hi, hz0, hz1, hz2⟩ := info_parts Tryd.infoWordC
  refine wpList_append_lies w hgd s x _ ho base _ i0 _ 1 8 Tryd.underlying57 hi hz0 hz1 hz2 rfl (by decide) v L.length (wordsL L) hs hown ⟨g, 0, none⟩ 1 1 (wordsL [p]) hx rfl ?_ ?_
      (by decide) (by unfold maxLen; omega) (by omega) hbase _ rfl (fun g' cap w' h1 h2 h3 _ => h g' cap w' ?_ h2 h3)
  · intro j u hu
    rw [addr_flat]
    match j, hu with
    | 0, hu => simp [wordsL] at hu; subst hu; exact h0
  · intro u hu; simp [wordsL] at hu; subst hu; rfl
  · unfold OwnW
    rw [show wordsL (L ++ [p]) = wordsL L ++ wordsL [p] by unfold wordsL; rw [List.map_append], List.length_append]
    exact h1
end Go.Proofs.YtojincgbnjkegaaDoor

/-
  Walks: the cell that begins somewhere, as package cells comes to it.
-/
namespace Go.Proofs.YtojincgbnjkegaaDoor
set_option linter.unusedVariables false
set_option linter.unusedSimpArgs false
open Go.RowKit

/-- How the program, and the reference, come to a cell's end and to what stands for it. -/
theorem way_big {u v r : Int} (g : GoodC u v) (h0 : 0 ≤ r) : 0 ≤ r * v ∧ 0 < v - u := by
  obtain ⟨g0, g1, g2⟩ := g
  exact ⟨Int.mul_nonneg h0 (by omega), by omega⟩
theorem ov_raw {u v lo : Int} (g : GoodC u v) (h : 1 ≤ lo) (h2 : lo ≤ 9223372036854775808) : ovQ (lo * (v + u)) v = rawC u v lo ∧ ovB (lo * (v + u)) v = true := by
  have a := craw_lt g h
  have e : ovB (lo * (v + u)) v = true := by
    unfold ovB; unfold rawC at a; apply decide_eq_true; obtain ⟨g0, g1, g2⟩ := g; omega
  refine ⟨?_, e⟩
  unfold ovQ; rw [if_pos e]; rfl
theorem ov_way {u v r : Int} (g : GoodC u v) (h0 : 0 ≤ r) : (ovB (r * v) (v - u) = true ∧ ovQ (r * v) (v - u) = wayC u v r ∧ wayC u v r < 18446744073709551616) ∨ (ovB (r * v) (v - u) = false ∧ ovQ (r * v) (v - u) = 0 ∧ 18446744073709551616 ≤ wayC u v r) := by
  obtain ⟨h1, h2⟩ := way_big g h0
  by_cases h : wayC u v r < 18446744073709551616
  · have e : ovB (r * v) (v - u) = true := by unfold ovB; unfold wayC at h; exact decide_eq_true ⟨h2, h⟩
    exact .inl ⟨e, by unfold ovQ; rw [if_pos e]; rfl, h⟩
  · have e : ovB (r * v) (v - u) = false := by unfold ovB; unfold wayC at h; apply decide_eq_false; omega
    exact .inr ⟨e, by unfold ovQ; rw [e]; rfl, by omega⟩
theorem word_raw {u v lo : Int} (g : GoodC u v) (h : 1 ≤ lo) (h2 : lo ≤ 9223372036854775808) : Word (rawC u v lo) := by
  have a := raw_ge g h
  have b := craw_lt g h
  unfold Word; omega

/-- The smaller one, as the builtin tells it. -/
theorem min_word (x y : Int) : (if y < x then y else x) = min x y := by
  split <;> omega

end Go.Proofs.YtojincgbnjkegaaDoor
/-
  Walks: layer 11's reference: all cells of a closeness.
-/
namespace Go.Proofs.YtojincgbnjkegaaDoor
set_option linter.unusedVariables false
set_option linter.unusedSimpArgs false
open Go.RowKit

def lowsC (u v : Int) (n : Nat) : List Int := (List.range n).map fun i => lowC u v i
def repsC (u v : Int) (n : Nat) : List Int := (List.range n).map fun i => repC u v (lowC u v i)
theorem lowsC_len (u v : Int) (n : Nat) : (lowsC u v n).length = n := by unfold lowsC; simp
theorem repsC_len (u v : Int) (n : Nat) : (repsC u v n).length = n := by unfold repsC; simp
theorem lowsC_succ (u v : Int) (n : Nat) : lowsC u v (n + 1) = lowsC u v n ++ [lowC u v n] := by unfold lowsC; rw [List.range_succ, List.map_append]; rfl
theorem repsC_succ (u v : Int) (n : Nat) : repsC u v (n + 1) = repsC u v n ++ [repC u v (lowC u v n)] := by unfold repsC; rw [List.range_succ, List.map_append]; rfl
theorem lowsC_at (u v : Int) {n i : Nat} (h : i < n) : (lowsC u v n)[i]? = some (lowC u v i) := by unfold lowsC; rw [List.getElem?_map, List.getElem?_range h]; rfl
theorem repsC_at (u v : Int) {n i : Nat} (h : i < n) : (repsC u v n)[i]? = some (repC u v (lowC u v i)) := by unfold repsC; rw [List.getElem?_map, List.getElem?_range h]; rfl

/-- The two rows on their way. -/
structure Rows11 (w0 w : World) (u v : Int) (a b : Value) (L R : List Int) : Prop where
  p0 : w.cell? ⟨w0.heap.size, 0, none⟩ = some (.int .u64 u)
  p1 : w.cell? ⟨w0.heap.size, 1, none⟩ = some (.int .u64 v)
  oa : OwnW w (w0.heap.size + 1) a L
  ob : OwnW w (w0.heap.size + 1) b R
  ne : ∀ g, a.ownBlock = some g → b.ownBlock ≠ some g
  sz : w0.heap.size + 1 ≤ w.heap.size
  bel : Below w0.heap.size w0 w
theorem Rows11.call {w0 w w' : World} {u v : Int} {a b : Value} {L R : List Int} (h : Rows11 w0 w u v a b L R) (hb : Below w.heap.size w w') : Rows11 w0 w' u v a b L R :=
  ⟨cell_later hb h.p0, cell_later hb h.p1, h.oa.call hb, h.ob.call hb, h.ne, Nat.le_trans h.sz hb.size, h.bel.trans (hb.mono h.bel.size)⟩
theorem Rows11.swap {w0 w : World} {u v : Int} {a b : Value} {L R : List Int} (h : Rows11 w0 w u v a b L R) : Rows11 w0 w u v b a R L :=
  ⟨h.p0, h.p1, h.ob, h.oa, fun g h1 h2 => h.ne g h2 h1, h.sz, h.bel⟩
/-- Behind an append to the first of them. -/
theorem Rows11.put {w0 w w' : World} {u v : Int} {a b : Value} {L R M : List Int} {g n cap : Nat} (h : Rows11 w0 w u v a b L R) (ho : OwnW w' (w0.heap.size + 1) (.slice (some ⟨g, 0, none⟩) n cap) M) (hg : w.grownBy w' a.ownBlock) (hat : a.ownBlock = some g ∨ g = w.heap.size) :
    Rows11 w0 w' u v (.slice (some ⟨g, 0, none⟩) n cap) b M R := by
  have hne : ∀ k, a.ownBlock = some k → w0.heap.size + 1 ≤ k := fun k hk => (h.oa.lt k hk).1
  have hb1 : Below (w0.heap.size + 1) w w' := (Below.refl _ _).grown hg h.sz hne
  have hc : ∀ (o : Nat) (y : Value), w.cell? ⟨w0.heap.size, o, none⟩ = some y → w'.cell? ⟨w0.heap.size, o, none⟩ = some y := fun o y hy =>
    (World.cell?_of_block (a := ⟨w0.heap.size, o, none⟩) (hb1.block _ (by show w0.heap.size < w0.heap.size + 1; omega))).trans hy
  refine ⟨hc 0 _ h.p0, hc 1 _ h.p1, ho, h.ob.other hg ?_, ?_, Nat.le_trans h.sz hg.size, h.bel.trans (hb1.mono (by omega))⟩
  · cases hb : b.ownBlock with
    | none => exact .inl rfl
    | some k =>
      refine .inr fun e => ?_
      exact h.ne k e.symm hb
  · intro k hk hbk
    have hk' : g = k := by simpa [Value.ownBlock] using hk
    subst hk'
    rcases hat with e | e
    · exact h.ne g e hbk
    · have := (h.ob.lt g hbk).2; omega

/-- What the reference tells. -/
def RefT (w : World) (u v : Int) (e : Ending) (w' : World) : Prop :=
  (∃ n A c A' c', TabN u v n ∧ 1 ≤ n ∧ n ≤ 4096 ∧ e = .returned (.tuple #[.slice A n c, .slice A' n c', .bool true]) ∧ OwnW w' (w.heap.size + 1) (.slice A n c) (lowsC u v n) ∧ OwnW w' (w.heap.size + 1) (.slice A' n c') (repsC u v n) ∧ Below w.heap.size w w') ∨
  (e = .returned (.tuple #[.slice none 0 0, .slice none 0 0, .bool false]) ∧ lowC u v 4096 ≤ 9223372036854775808 ∧ Below w.heap.size w w')
theorem rtimes_lo (u v lo : Int) (g : GoodC u v) (h : 1 ≤ lo) (h2 : lo ≤ 9223372036854775808) (w : World) :
    Calls Tryd.prog 48 #[.int .u64 lo, .int .u64 (v + u)] w fun e w' => e = .returned (.agg #[.int .u64 (hiW (lo * (v + u))), .int .u64 (loW (lo * (v + u)))]) ∧ Below w.heap.size w w' := by
  obtain ⟨g0, g1, g2⟩ := g
  exact rtimes_any lo (v + u) (by unfold Word; omega) (by unfold Word; omega) w
theorem rover_lo (u v lo r s : Int) (g : GoodC u v) (h : 1 ≤ lo) (h2 : lo ≤ 9223372036854775808) (hr : rawC u v lo = r) (hs : ovR (lo * (v + u)) v = s) (w : World) :
    Calls Tryd.prog 73 #[.agg #[.int .u64 (hiW (lo * (v + u))), .int .u64 (loW (lo * (v + u)))], .int .u64 v] w fun e w' => e = .returned (.tuple #[.int .u64 r, .int .u64 s, .bool true]) ∧ Below w.heap.size w w' := by
  obtain ⟨g0, g1, g2⟩ := id g
  obtain ⟨m0, m1⟩ := mul_bd (a := lo) (b := v + u) (by unfold Word; omega) (by unfold Word; omega)
  have hf := rover_num (lo * (v + u)) v m0 m1 (by unfold Word; omega) w
  obtain ⟨e1, e2⟩ := ov_raw g h h2
  rw [e1, e2, hr, hs] at hf
  exact hf
theorem rtimes_up (u v r : Int) (g : GoodC u v) (h : 0 ≤ r) (h2 : r < 18446744073709551616) (w : World) :
    Calls Tryd.prog 48 #[.int .u64 r, .int .u64 v] w fun e w' => e = .returned (.agg #[.int .u64 (hiW (r * v)), .int .u64 (loW (r * v))]) ∧ Below w.heap.size w w' := by
  obtain ⟨g0, g1, g2⟩ := g
  exact rtimes_any r v (by unfold Word; omega) (by unfold Word; omega) w
theorem rover_up (u v r q s : Int) (b : Bool) (g : GoodC u v) (h : 0 ≤ r) (h2 : r < 18446744073709551616) (hq : ovQ (r * v) (v - u) = q) (hs : ovR (r * v) (v - u) = s) (hb : ovB (r * v) (v - u) = b) (w : World) :
    Calls Tryd.prog 73 #[.agg #[.int .u64 (hiW (r * v)), .int .u64 (loW (r * v))], .int .u64 (v - u)] w fun e w' => e = .returned (.tuple #[.int .u64 q, .int .u64 s, .bool b]) ∧ Below w.heap.size w w' := by
  obtain ⟨g0, g1, g2⟩ := id g
  obtain ⟨m0, m1⟩ := mul_bd (a := r) (b := v) (by unfold Word; omega) (by unfold Word; omega)
  have hf := rover_num (r * v) (v - u) m0 m1 (by unfold Word; omega) w
  rw [hq, hs, hb] at hf
  exact hf
/-- The ways of a round: where the cell ends, and what stands for it. -/
theorem ref_ways {u v lo r q E R : Int} {b : Bool} (g : GoodC u v) (h : 1 ≤ lo) (hr : rawC u v lo = r) (hq : ovQ (r * v) (v - u) = q) (hb : ovB (r * v) (v - u) = b) (hE : endC u v lo = E) (hR : repC u v lo = R) :
    (9223372036854775808 < r ∧ E = 9223372036854775808 ∧ R = 9223372036854775807) ∨
    (r < 9223372036854775808 ∧ b = true ∧ q < 9223372036854775808 ∧ E = q ∧ R = r) ∨
    (r < 9223372036854775808 ∧ b = true ∧ 9223372036854775808 ≤ q ∧ E = 9223372036854775808 ∧ R = r) ∨
    (r < 9223372036854775808 ∧ b = false ∧ E = 9223372036854775808 ∧ R = r) ∨
    (r = 9223372036854775808 ∧ b = true ∧ 9223372036854775808 ≤ q ∧ E = 9223372036854775808 ∧ R = 9223372036854775807) ∨
    (r = 9223372036854775808 ∧ b = false ∧ E = 9223372036854775808 ∧ R = 9223372036854775807) := by
  have hr0 := raw_ge g h
  have hw := way_ge g (show 0 ≤ r by omega)
  unfold endC at hE
  unfold repC at hR
  rw [hr] at hE hR hr0
  rcases ov_way g (show 0 ≤ r by omega) with ⟨e1, e2, e3⟩ | ⟨e1, e2, e3⟩
  · rw [hb] at e1
    rw [hq] at e2
    subst e1
    by_cases c1 : 9223372036854775808 < r
    · left; omega
    · by_cases c2 : r = 9223372036854775808
      · right; right; right; right; left; exact ⟨c2, rfl, by omega, by omega, by omega⟩
      · by_cases c3 : q < 9223372036854775808
        · right; left; exact ⟨by omega, rfl, by omega, by omega, by omega⟩
        · right; right; left; exact ⟨by omega, rfl, by omega, by omega, by omega⟩
  · rw [hb] at e1
    subst e1
    by_cases c1 : 9223372036854775808 < r
    · left; omega
    · by_cases c2 : r = 9223372036854775808
      · right; right; right; right; right; exact ⟨c2, rfl, by omega, by omega⟩
      · right; right; right; left; exact ⟨by omega, rfl, by omega, by omega⟩

/-- What a round needs of its cell: the two calls ahead, their numbers, and the ways. -/
theorem rows_done {w0 w : World} {u v : Int} {k : Nat} {a b : Value} (g : GoodC u v) (hk : k ≤ 4096) (hl : ∀ j, j < k → lowC u v j ≤ 9223372036854775808) (hn : ¬ lowC u v k ≤ 9223372036854775808) (h : Rows11 w0 w u v a b (lowsC u v k) (repsC u v k)) :
    RefT w0 u v (.returned (.tuple #[a, b, .bool true])) w := by
  have ht : TabN u v k := ⟨hl, by have := low_le u v k; omega⟩
  obtain ⟨A, c, rfl⟩ := h.oa.form
  obtain ⟨A', c', rfl⟩ := h.ob.form
  have oa := h.oa
  have ob := h.ob
  rw [lowsC_len] at oa ⊢
  rw [repsC_len] at ob ⊢
  exact Or.inl ⟨k, A, c, A', c', ht, tab_pos ht, hk, rfl, oa, ob, h.bel⟩

end Go.Proofs.YtojincgbnjkegaaDoor
/-
  Walks: the reference of layer 12 (Half, Index, Range), the laws' alive.
-/
namespace Go.Proofs.YtojincgbnjkegaaDoor
set_option linter.unusedVariables false
set_option linter.unusedSimpArgs false
open Go.RowKit Go.Shelf

theorem pow_test {d : Int} {L : Nat} {T : Int} (hs : SpanP d L T) {j : Nat} (h : j ≤ L) : decide ((2 : Int) ^ j < T) = decide (j < L) := by
  apply decide_eq_decide.2
  have hT := spanp_ten hs
  constructor
  · intro a
    by_cases e : j = L
    · subst e; omega
    · omega
  · intro a
    have := pow_le (show j ≤ L - 1 by omega)
    rcases hs with ⟨_, rfl, rfl⟩ | ⟨_, rfl, rfl⟩ | ⟨_, rfl, rfl⟩ | ⟨_, rfl, rfl⟩
    · have e : (2 : Int) ^ (4 - 1) = 8 := by decide
      omega
    · have e : (2 : Int) ^ (7 - 1) = 64 := by decide
      omega
    · have e : (2 : Int) ^ (10 - 1) = 512 := by decide
      omega
    · have e : (2 : Int) ^ (14 - 1) = 8192 := by decide
      omega
def tenN : Nat → Int
  | 0 => 1
  | n + 1 => tenN n * 10
theorem tenN_bd : ∀ k, k ≤ 3 → 1 ≤ tenN k ∧ tenN k ≤ 1000 := by decide
theorem tenN_of {d : Int} {L : Nat} {T : Int} (hs : SpanP d L T) {k : Nat} (h : (k : Int) = d) : tenN k = T := by
  rcases hs with ⟨rfl, rfl, rfl⟩ | ⟨rfl, rfl, rfl⟩ | ⟨rfl, rfl, rfl⟩ | ⟨rfl, rfl, rfl⟩
  · obtain rfl : k = 1 := by omega
    rfl
  · obtain rfl : k = 2 := by omega
    rfl
  · obtain rfl : k = 3 := by omega
    rfl
  · obtain rfl : k = 4 := by omega
    rfl

set_option maxHeartbeats 1000000 in
theorem rhalf_any (d : Int) (L : Nat) (T : Int) (hs : SpanP d L T) (w : World) :
    Calls Tryd.prog 77 #[.int .i64 d] w fun e w' => e = .returned (.int .u64 (2 ^ L)) ∧ w = w' := by
  have d1 : 1 ≤ d := by unfold SpanP at hs; omega
  have d4 : d ≤ 4 := by unfold SpanP at hs; omega
  have HS := Lib.hid hs
  clear hs
  go_enter Tryd.func77, Tryd.ntmps77
  go_wp2_with fail
  go_loop [3, 4] (fun t i => ∃ k : Nat, (k : Int) ≤ d ∧ i = .int .i64 k ∧ t = .int .u64 (tenN k)) (fun _ i => (d - intOf i).toNat)
  case atStart => exact ⟨0, by omega, rfl, rfl⟩
  case round =>
    obtain ⟨k, hk, rfl, rfl⟩ := hrel
    by_cases hlt : (k : Int) < d
    · obtain ⟨t0, t1⟩ := tenN_bd k (by omega)
      have HT := Lib.hid (show tenN (k + 1) = tenN k * 10 from rfl)
      generalize tenN k = t at *
      go_wp2_with fail
      go_round
      case rel => exact ⟨k + 1, by omega, by go_num, by rw [HT.out]⟩
      case measure => simp [intOf]; omega
    · have HT := Lib.hid (tenN_of HS.out (k := k) (by omega))
      rw [HT.out]
      obtain ⟨T0, T1⟩ := spanp_ten HS.out
      obtain ⟨l4, l14⟩ := spanp_log HS.out
      have T2 : T ≤ 10000 := by have := HS.out; unfold SpanP at this; omega
      clear T1
      go_wp2_with fail
      go_loop [5] (fun h => ∃ j : Nat, j ≤ L ∧ h = .int .u64 (2 ^ j)) (fun h => (20000 - intOf h).toNat)
      case atStart => exact ⟨0, by omega, rfl⟩
      case round =>
        obtain ⟨j, hj, rfl⟩ := hrel
        have HP := Lib.hid (pow_test HS.out hj)
        have HU := Lib.hid (pow_up j)
        have p1 := pow_pos j
        have p2 := pow_le (show j ≤ 14 by omega)
        rw [show (2 : Int) ^ 14 = 16384 by decide] at p2
        by_cases hl : j < L
        · have ht : (2 : Int) ^ j < T := by simpa [hl] using HP.out
          generalize (2 : Int) ^ j = p at *
          go_wp2_with fail
          go_round
          case rel => exact ⟨j + 1, by omega, by rw [HU.out]⟩
          case measure => simp [intOf]; omega
        · have ht : ¬ (2 : Int) ^ j < T := by simpa [hl] using HP.out
          obtain rfl : j = L := by omega
          obtain ⟨p, hp⟩ : ∃ p : Int, (2 : Int) ^ j = p := ⟨_, rfl⟩
          have E := Lib.hid hp
          rw [hp] at ht p1 p2 ⊢
          clear hp HP HU
          go_wp2_with fail
          go_ret
          exact ⟨ret_int E.out.symm, rfl⟩

theorem left_test (L : Nat) {m : Int} (h1 : 1 ≤ m) (h2 : m ≤ 9223372036854775808) (hL : L ≤ 14) {j : Nat} (hj : j ≤ cutS L m) : decide (2 * 2 ^ L ≤ m / 2 ^ j) = decide (j < cutS L m) := by
  obtain ⟨a0, a1, a2, a3, a4, a5, a6⟩ := cut_facts L h1 h2 hL
  apply decide_eq_decide.2
  have hp := pow_pos j
  rw [← pow_up, Int.le_ediv_iff_mul_le (by omega), pow_join]
  constructor
  · intro a
    by_cases e : j = cutS L m
    · rw [e] at a; omega
    · omega
  · intro a
    have hq : 2 ^ L ≤ leftS L m := by rcases a3 with h | h <;> omega
    have hc := pow_pos (cutS L m)
    have : 2 ^ L * 2 ^ cutS L m ≤ leftS L m * 2 ^ cutS L m := Int.mul_le_mul_of_nonneg_right hq (by omega)
    rw [pow_join] at this
    have hl : loS L m = leftS L m * 2 ^ cutS L m := rfl
    have := pow_le (show L + 1 + j ≤ L + cutS L m by omega)
    omega
theorem half_more (m : Int) (j : Nat) : m / 2 ^ j / 2 = m / 2 ^ (j + 1) := by
  rw [Int.pow_succ, Int.ediv_ediv_of_nonneg (by have := pow_pos j; omega)]
theorem div_bd {m : Int} (h1 : 1 ≤ m) (h2 : m ≤ 9223372036854775808) (j : Nat) : 0 ≤ m / 2 ^ j ∧ m / 2 ^ j ≤ m := by
  have hp := pow_pos j
  exact ⟨Int.ediv_nonneg (by omega) (by omega), Int.ediv_le_self _ (by omega)⟩

set_option maxHeartbeats 1000000 in
theorem rindex12_any (d : Int) (L : Nat) (T m : Int) (hs : SpanP d L T) (h1 : 1 ≤ m) (h2 : m ≤ 9223372036854775808) (w : World) :
    Calls Tryd.prog 92 #[.int .i64 d, .int .u64 m] w fun e w' => e = .returned (.int .i64 (idxS L m)) ∧ w = w' := by
  obtain ⟨l4, l14⟩ := spanp_log hs
  have HH := Lib.hid (fun W => rhalf_any d L T hs W)
  obtain ⟨a0, a1, a2, a3, _⟩ := cut_facts L h1 h2 l14
  have hpL := pow_le (show L ≤ 14 by omega)
  rw [show (2 : Int) ^ 14 = 16384 by decide] at hpL
  have hpp := pow_pos L
  rw [pow_up] at a2
  have HLT := Lib.hid (fun j (hj : j ≤ cutS L m) => left_test L h1 h2 l14 hj)
  have hkm : (cutS L m : Int) * 2 ^ L ≤ 59 * 16384 := Int.mul_le_mul (by omega) (by omega) (by omega) (by omega)
  have hkm0 : 0 ≤ (cutS L m : Int) * 2 ^ L := Int.mul_nonneg (by omega) (by omega)
  have E : Hid ((cutS L m : Int) * 2 ^ L + leftS L m = idxS L m) := Lib.hid rfl
  have hqd : m / 2 ^ cutS L m = leftS L m := rfl
  generalize leftS L m = q at *
  generalize idxS L m = x at *
  generalize cutS L m = k at *
  obtain ⟨p, hp⟩ : ∃ p : Int, (2 : Int) ^ L = p := ⟨_, rfl⟩
  rw [hp] at HH HLT hkm hkm0 E hpL hpp a2
  have HM := Lib.hid hkm
  have HM0 := Lib.hid hkm0
  clear hp hs l4 l14 a3 hkm hkm0
  go_enter Tryd.func92, Tryd.ntmps92
  go_wp2_with fail
  refine (HH.out _).mono ?_
  rintro e w' ⟨rfl, rfl⟩
  go_wp2_with fail
  go_loop [1, 6] (fun a c => ∃ j : Nat, j ≤ k ∧ a = .int .u64 (m / 2 ^ j) ∧ c = .int .u64 j) (fun _ c => k - (intOf c).toNat)
  case atStart => exact ⟨0, by omega, by simp, rfl⟩
  case round =>
    obtain ⟨j, hj, rfl, rfl⟩ := hrel
    have HT := Lib.hid (HLT.out j hj)
    have HU := Lib.hid (half_more m j)
    obtain ⟨d0, d1⟩ := div_bd h1 h2 j
    by_cases hl : j < k
    · have ht : 2 * p ≤ m / 2 ^ j := by simpa [hl] using HT.out
      generalize m / 2 ^ j = v at *
      clear HT
      go_wp2_with fail
      go_round
      case rel => exact ⟨j + 1, by omega, by rw [← HU.out], by go_num⟩
      case measure => simp [intOf]; omega
    · have ht : ¬ 2 * p ≤ m / 2 ^ j := by simpa [hl] using HT.out
      obtain rfl : j = k := by omega
      rw [hqd] at ht d0 d1 ⊢
      have M1 := HM.out
      have M0 := HM0.out
      clear HT HU hqd
      go_wp2_with fail
      go_ret
      exact ⟨ret_int E.out, rfl⟩

theorem hi_full (L : Nat) {m : Int} (h1 : 1 ≤ m) (h2 : m ≤ 9223372036854775808) (hL : L ≤ 14) (h : loS L m ≠ 9223372036854775808) : hiS L m = loS L m + 2 ^ cutS L m - 1 ∧ loS L m + 2 ^ cutS L m ≤ 9223372036854775808 := by
  obtain ⟨a0, a1, a2, a3, a4, a5, a6⟩ := cut_facts L h1 h2 hL
  have hl : loS L m = leftS L m * 2 ^ cutS L m := rfl
  have hh : hiS L m = min (loS L m + (2 ^ cutS L m - 1)) 9223372036854775808 := rfl
  have hp := pow_pos (cutS L m)
  have e : (2 : Int) ^ (63 - cutS L m) * 2 ^ cutS L m = 9223372036854775808 := by
    rw [pow_join, show 63 - cutS L m + cutS L m = 63 by omega]; decide
  have hq : leftS L m + 1 ≤ 2 ^ (63 - cutS L m) := by
    have : ¬ 2 ^ (63 - cutS L m) ≤ leftS L m := fun h => by
      have := Int.mul_le_mul_of_nonneg_right h (show (0 : Int) ≤ 2 ^ cutS L m by omega)
      omega
    omega
  have h5 := Int.mul_le_mul_of_nonneg_right hq (show (0 : Int) ≤ 2 ^ cutS L m by omega)
  rw [Int.add_mul] at h5
  omega
theorem hi_top (L : Nat) {m : Int} (h : loS L m = 9223372036854775808) : hiS L m = 9223372036854775808 := by
  have hh : hiS L m = min (loS L m + (2 ^ cutS L m - 1)) 9223372036854775808 := rfl
  have := pow_pos (cutS L m)
  omega

set_option maxHeartbeats 1000000 in
theorem rrange12_any (d : Int) (L : Nat) (T m : Int) (hs : SpanP d L T) (h1 : 1 ≤ m) (h2 : m ≤ 9223372036854775808) (w : World) :
    Calls Tryd.prog 52 #[.int .i64 d, .int .u64 m] w fun e w' => e = .returned (.tuple #[.int .u64 (loS L m), .int .u64 (hiS L m)]) ∧ w = w' := by
  obtain ⟨l4, l14⟩ := spanp_log hs
  have HH := Lib.hid (fun W => rhalf_any d L T hs W)
  obtain ⟨a0, a1, a2, a3, a4, _⟩ := cut_facts L h1 h2 l14
  have hpL := pow_le (show L ≤ 14 by omega)
  rw [show (2 : Int) ^ 14 = 16384 by decide] at hpL
  have hpp := pow_pos L
  have HLT := Lib.hid (fun j (hj : j ≤ cutS L m) => left_test L h1 h2 l14 hj)
  have HF := Lib.hid (fun h => hi_full L h1 h2 l14 h)
  have HT := Lib.hid (fun h => hi_top L (m := m) h)
  have ⟨lo0, _⟩ := span_in L h1 h2 l14
  have hmul : leftS L m * 2 ^ cutS L m = loS L m := rfl
  have hqd : m / 2 ^ cutS L m = leftS L m := rfl
  have hk : cutS L m ≤ 59 := by omega
  generalize leftS L m = q at *
  generalize loS L m = lo at *
  generalize hiS L m = hi at *
  generalize cutS L m = k at *
  obtain ⟨p, hp⟩ : ∃ p : Int, (2 : Int) ^ L = p := ⟨_, rfl⟩
  rw [hp] at HH HLT hpL hpp
  clear hp hs l4 l14 a2 a3 a0
  go_enter Tryd.func52, Tryd.ntmps52
  go_wp2_with fail
  refine (HH.out _).mono ?_
  rintro e w' ⟨rfl, rfl⟩
  go_wp2_with fail
  go_loop [7] (fun c => ∃ j : Nat, j ≤ k ∧ c = .int .u64 (2 ^ j)) (fun c => (2 ^ 62 - intOf c).toNat)
  case atStart => exact ⟨0, by omega, rfl⟩
  case round =>
    obtain ⟨j, hj, rfl⟩ := hrel
    have HTE := Lib.hid (HLT.out j hj)
    have HU := Lib.hid (pow_up j)
    have p1 := pow_pos j
    have p2 := pow_le (show j ≤ 59 by omega)
    rw [show (2 : Int) ^ 59 = 576460752303423488 by decide] at p2
    have p0 : ((2 : Int) ^ j == 0) = false := by simp; omega
    obtain ⟨d0, d1⟩ := div_bd h1 h2 j
    obtain ⟨v, hv⟩ : ∃ v, m / 2 ^ j = v := ⟨_, rfl⟩
    by_cases hl : j < k
    · have ht : 2 * p ≤ m / 2 ^ j := by simpa [hl] using HTE.out
      rw [hv] at d0 d1 ht
      generalize (2 : Int) ^ j = s at *
      clear HTE
      go_wp2_with fail
      go_round
      case rel => exact ⟨j + 1, by omega, by rw [HU.out]⟩
      case measure => simp [intOf]; omega
    · have ht : ¬ 2 * p ≤ m / 2 ^ j := by simpa [hl] using HTE.out
      obtain rfl : j = k := by omega
      rw [hv] at hqd d0 d1 ht
      subst hqd
      have hF := HF.out
      have hT := HT.out
      obtain ⟨s, hsz⟩ : ∃ s : Int, (2 : Int) ^ j = s := ⟨_, rfl⟩
      rw [hsz] at hF p1 p2 p0 hv hmul ⊢
      clear HTE HU HF HT hsz
      by_cases hlo : lo = 9223372036854775808
      · have E := Lib.hid (hT hlo)
        have c1 : (lo == 9223372036854775808) = true := by simp [hlo]
        subst hlo
        clear hF hT
        go_wp2_with fail
        go_ret2
        exact ⟨ret_uu rfl E.out.symm, rfl⟩
      · obtain ⟨E1, E2⟩ := hF hlo
        have c1 : (lo == 9223372036854775808) = false := by simp [hlo]
        have E := Lib.hid E1
        clear hF hT E1
        go_wp2_with fail
        go_ret2
        exact ⟨ret_uu rfl E.out.symm, rfl⟩

end Go.Proofs.YtojincgbnjkegaaDoor

/-
  Walks: the reference of layer 13 (bins, by definition): what it keeps in memory; Part, Total, Row, Kept, Up.
-/
namespace Go.Proofs.YtojincgbnjkegaaDoor
set_option linter.unusedVariables false
set_option linter.unusedSimpArgs false
open Go.RowKit

/-- Which part: the last cell that begins no later. -/
def lastC (u v : Int) : Nat → Int → Int
  | 0, _ => -1
  | k + 1, m => if lowC u v k ≤ m then k else lastC u v k m
theorem lastc_is {u v m : Int} {i : Nat} : ∀ n : Nat, i < n → lowC u v i ≤ m → (∀ k, i < k → k < n → m < lowC u v k) → lastC u v n m = i := by
  intro n
  induction n with
  | zero => intro h; omega
  | succ n ih =>
    intro h h1 h2
    by_cases e : i = n
    · subst e; show (if lowC u v i ≤ m then (i : Int) else _) = _; rw [if_pos h1]
    · have := h2 n (by omega) (by omega)
      show (if lowC u v n ≤ m then (n : Int) else lastC u v n m) = _
      rw [if_neg (by omega)]
      exact ih (by omega) h1 fun k a b => h2 k a (by omega)
theorem lastc_idx {u v m : Int} {n : Nat} (g : GoodC u v) (h : TabN u v n) (h1 : 1 ≤ m) (h2 : m ≤ 9223372036854775808) : lastC u v n m = idxC u v n m := by
  obtain ⟨i, hi, e, a, b⟩ := idx_at g h h1 h2
  rw [e]
  refine lastc_is n hi a fun k hk hn => ?_
  have := low_mono g (show i + 1 ≤ k by omega)
  rw [low_succ] at this; omega

set_option maxRecDepth 100000 in
set_option maxHeartbeats 1000000 in
theorem rfind11_any (w : World) (a cap : Nat) (u v m x : Int) (n : Nat) (hn : n ≤ 4096) (wm : Word m) (hl : ∀ i, i < n → 0 ≤ lowC u v i ∧ lowC u v i ≤ 18446744073709551615) (hc : ∀ i, i < n → w.cell? ⟨a, i, none⟩ = some (.int .u64 (lowC u v i))) (hx : lastC u v n m = x) :
    Calls Tryd.prog 65 #[.slice (some ⟨a, 0, none⟩) n cap, .int .u64 m] w fun e w' => e = .returned (.int .i64 x) ∧ Below w.heap.size w w' := by
  have HX := Lib.hid hx
  have HL := Lib.hid hl
  have HC := Lib.hid hc
  obtain ⟨m0, m1⟩ := wm
  clear hx hl hc
  go_enter Tryd.func65, Tryd.ntmps65
  go_wp2_with fail
  go_loopw [5, 10] (fun s j wr => ∃ k : Nat, k ≤ n ∧ j = .int .i64 k ∧ s = .int .i64 (lastC u v k m) ∧ Below w.heap.size w wr) (fun _ j _ => n - (intOf j).toNat)
  case atStart => exact ⟨0, Nat.zero_le _, rfl, rfl, Below.refl _ _⟩
  case round =>
    obtain ⟨k, hk, rfl, rfl, hb2⟩ := hrel
    by_cases hlt : k < n
    · have kk : (k : Int) < n := by omega
      have c0 := cell_later hb2 (HC.out k hlt)
      obtain ⟨l0, l1⟩ := HL.out k hlt
      have HS : Hid (lastC u v (k + 1) m = if lowC u v k ≤ m then (k : Int) else lastC u v k m) := Lib.hid rfl
      generalize lowC u v k = lo at *
      by_cases he : lo ≤ m
      · rw [if_pos he] at HS
        go_wp2_with fail
        go_roundw
        case rel => exact ⟨k + 1, by omega, by go_num, by rw [HS.out], hb2⟩
        case measure => simp [intOf]; omega
      · rw [if_neg he] at HS
        go_wp2_with fail
        go_roundw
        case rel => exact ⟨k + 1, by omega, by go_num, by rw [HS.out], hb2⟩
        case measure => simp [intOf]; omega
    · obtain rfl : k = n := by omega
      have kk : ¬ (k : Int) < k := by omega
      rw [HX.out]
      go_wp2_with fail
      go_ret
      exact ⟨rfl, hb2⟩

/-- A partition, as the reference keeps it: rows of where cells begin, and of what stands for them, or so many digits. -/
def PtR (w : World) (M : Nat) : Pt → Value → Value → Int → Prop
  | .cells u v n, lo, re, dg => dg = 0 ∧ ∃ g h c c', lo = .slice (some ⟨g, 0, none⟩) n c ∧ re = .slice (some ⟨h, 0, none⟩) n c' ∧ g ≠ M ∧ h ≠ M ∧ (∀ i, i < n → w.cell? ⟨g, i, none⟩ = some (.int .u64 (lowC u v i))) ∧ (∀ i, i < n → w.cell? ⟨h, i, none⟩ = some (.int .u64 (repC u v (lowC u v i))))
  | .spans d L T, lo, re, dg => dg = d ∧ lo = .slice none 0 0 ∧ re = .slice none 0 0
theorem ptr_call {w w' : World} {M : Nat} {P : Pt} {lo re : Value} {dg : Int} (h : PtR w M P lo re dg) (hb : Below w.heap.size w w') : PtR w' M P lo re dg := by
  cases P with
  | cells u v n =>
    obtain ⟨h0, g, h, c, c', h1, h2, n1, n2, h3, h4⟩ := h
    exact ⟨h0, g, h, c, c', h1, h2, n1, n2, fun i hi => cell_later hb (h3 i hi), fun i hi => cell_later hb (h4 i hi)⟩
  | spans d L T => exact h
/-- The reference's bins at block M: a partition, a side, most, and all values. -/
def sideI (s : Bool) : Int := if s = true then 1 else 0
structure RefN (w : World) (M : Nat) (P : Pt) (s : Bool) (m : Int) (A : List PairV) : Prop where
  ex : ∃ lo re dg a cap, PtR w M P lo re dg ∧ Pairs w a A ∧ w.heap[M]? = some (.cells #[lo, re, .int .i64 dg, .int .i64 (sideI s), .int .i64 m, .slice a A.length cap] 59 (0, 0))
theorem RefN.lt {w : World} {M : Nat} {P : Pt} {s : Bool} {m : Int} {A : List PairV} (h : RefN w M P s m A) : M < w.heap.size := by
  obtain ⟨lo, re, dg, a, cap, _, _, hb⟩ := h.ex
  exact lt_of_block hb
theorem RefN.call {w w' : World} {M : Nat} {P : Pt} {s : Bool} {m : Int} {A : List PairV} (h : RefN w M P s m A) (hb : Below w.heap.size w w') : RefN w' M P s m A := by
  have hl := h.lt
  obtain ⟨lo, re, dg, a, cap, h1, h2, h3⟩ := h.ex
  exact ⟨lo, re, dg, a, cap, ptr_call h1 hb, h2.call hb, (hb.block M hl).trans h3⟩
/-- What is read of it. -/
structure CelN (w : World) (M : Nat) (s : Bool) (m : Int) (A : List PairV) (lo re : Value) (dg : Int) (a : Option Addr) (cap : Nat) : Prop where
  c0 : w.cell? ⟨M, 0, none⟩ = some lo
  c1 : w.cell? ⟨M, 1, none⟩ = some re
  c2 : w.cell? ⟨M, 2, none⟩ = some (.int .i64 dg)
  c3 : w.cell? ⟨M, 3, none⟩ = some (.int .i64 (sideI s))
  c4 : w.cell? ⟨M, 4, none⟩ = some (.int .i64 m)
  c5 : w.cell? ⟨M, 5, none⟩ = some (.slice a A.length cap)
theorem RefN.cells {w : World} {M : Nat} {P : Pt} {s : Bool} {m : Int} {A : List PairV} (h : RefN w M P s m A) : ∃ lo re dg a cap, PtR w M P lo re dg ∧ Pairs w a A ∧ CelN w M s m A lo re dg a cap := by
  obtain ⟨lo, re, dg, a, cap, h1, h2, h3⟩ := h.ex
  exact ⟨lo, re, dg, a, cap, h1, h2, by rw [Joins.cell_of_block h3]; rfl, by rw [Joins.cell_of_block h3]; rfl, by rw [Joins.cell_of_block h3]; rfl, by rw [Joins.cell_of_block h3]; rfl, by rw [Joins.cell_of_block h3]; rfl, by rw [Joins.cell_of_block h3]; rfl⟩

set_option maxRecDepth 100000 in
set_option maxHeartbeats 1000000 in
theorem rpart13_any (w : World) (M : Nat) (P : Pt) (s : Bool) (m : Int) (A : List PairV) (x i : Int) (h : RefN w M P s m A) (hP : P.ok) (h1 : 1 ≤ x) (h2 : x ≤ 9223372036854775808) (hi : P.idx x = i) :
    Calls Tryd.prog 72 #[.pointer (some ⟨M, 0, none⟩), .int .u64 x] w fun e w' => e = .returned (.int .i64 i) ∧ Below w.heap.size w w' := by
  obtain ⟨lo, re, dg, a, cap, hp, hv, hc⟩ := h.cells
  have c0 := hc.c0
  have c2 := hc.c2
  clear h hv hc
  cases P with
  | cells u v n =>
    obtain ⟨rfl, g, k, c, c', rfl, rfl, _, _, hl, _⟩ := hp
    obtain ⟨hg, ht, hn⟩ := hP
    have HF := Lib.hid (rfind11_any w g c u v x i n hn (by unfold Word; omega) (fun j hj => by have := low_pos hg j; have := ht.1 j hj; omega) hl (by rw [lastc_idx hg ht h1 h2]; exact hi))
    clear hi hl hg ht hn
    go_enter Tryd.func72, Tryd.ntmps72
    go_wp2_with fail
    refine HF.out.mono ?_
    rintro e w2 ⟨rfl, hb⟩
    go_wp2_with fail
    go_ret
    exact ⟨rfl, hb⟩
  | spans d L T =>
    obtain ⟨rfl, rfl, rfl⟩ := hp
    have d0 : 0 < dg := by have : SpanP dg L T := hP; unfold SpanP at this; omega
    have HF := Lib.hid (rindex12_any dg L T x hP h1 h2 w)
    have e : idxS L x = i := hi
    rw [e] at HF
    clear hi hP e
    go_enter Tryd.func72, Tryd.ntmps72
    go_wp2_with fail
    refine HF.out.mono ?_
    rintro e w2 ⟨rfl, rfl⟩
    go_wp2_with fail
    go_ret
    exact ⟨rfl, Below.refl _ _⟩

set_option maxRecDepth 100000 in
set_option maxHeartbeats 1000000 in
theorem rtotal13_any (w : World) (M : Nat) (P : Pt) (s : Bool) (m : Int) (A : List PairV) (n : Int) (h : RefN w M P s m A) (hl : A.length ≤ 1000) (hn : sumP A = n) (hb : n < 18446744073709551616) :
    Calls Tryd.prog 18 #[.pointer (some ⟨M, 0, none⟩)] w fun e w' => e = .returned (.int .u64 n) ∧ Below w.heap.size w w' := by
  obtain ⟨lo, re, dg, a, cap, hp, hv, hc⟩ := h.cells
  have c5 := hc.c5
  have HI := Lib.hid hv
  have HN := Lib.hid hn
  have HP := Lib.hid (fun k => sumP_take (L := A) k (ok_pos hv.ok))
  clear h hn hp hc hv
  go_enter Tryd.func18, Tryd.ntmps18
  go_wp2_with fail
  go_loopw [3, 11] (fun s j wr => ∃ (k : Nat) (m : Int), k ≤ A.length ∧ j = .int .i64 k ∧ s = .int .u64 m ∧ m = sumP (A.take k) ∧ Below w.heap.size w wr) (fun _ j _ => A.length - (intOf j).toNat)
  case atStart => exact ⟨0, 0, Nat.zero_le _, rfl, rfl, rfl, Below.refl _ _⟩
  case round =>
    obtain ⟨k, m, hk, rfl, rfl, hm, hb2⟩ := hrel
    have HM := Lib.hid hm
    by_cases hlt : k < A.length
    · have kk : (k : Int) < A.length := by omega
      have hxk : A[k]? = some A[k] := List.getElem?_eq_getElem hlt
      generalize hit : A[k] = p at *
      obtain ⟨px, pc⟩ := p
      obtain ⟨b, off, rfl, hbl, c0, c1⟩ := (HI.out.call hb2).at_ k _ hxk
      have HS := Lib.hid (sum_step' hxk)
      have hok := HI.out.ok _ (List.mem_of_getElem? hxk)
      have p1 := HP.out (k + 1)
      have p0 := HP.out k
      rw [HN.out] at p1
      rw [HS.out] at p1
      rw [← hm] at p0 p1
      have hbs := hb2.size
      obtain ⟨⟨o1, o2⟩, o3, o4⟩ := hok
      simp only at c0 c1 o1 o2 o3 o4 p1 HS
      obtain ⟨p2, p3⟩ := p1
      obtain ⟨p4, _⟩ := p0
      clear hxk hit hm
      go_wp2_with fail
      go_roundw
      case rel => exact ⟨k + 1, m + pc, by omega, by go_num, rfl, by rw [HS.out, HM.out], hb2.alloc hbs _⟩
      case measure => simp [intOf]; omega
    · obtain rfl : k = A.length := by omega
      rw [List.take_length, HN.out] at HM
      have kk : ¬ (A.length : Int) < A.length := by omega
      clear hm
      go_wp2_with fail
      go_ret
      exact ⟨ret_int HM.out, hb2⟩

theorem cnt_take {f : Int → Bool} {A : List PairV} {k : Nat} {p : PairV} (h : A[k]? = some p) : cntV f (A.take (k + 1)) = cntV f (A.take k) + if f p.1 = true then p.2 else 0 := by
  rw [take_snocP h, cnt_app, cnt_one]
theorem cnt_part {f : Int → Bool} {A : List PairV} (k : Nat) (h : ∀ v, v ∈ A → 0 ≤ v.2) : 0 ≤ cntV f (A.take k) ∧ cntV f (A.take k) ≤ sumP A := by
  have h1 := cnt_bd (f := f) (A := A.take k) (fun v hv => h v (List.mem_of_mem_take hv))
  have h2 := cnt_le (f := f) (g := fun _ => true) (A := A.take k) (fun v hv => h v (List.mem_of_mem_take hv)) (fun _ _ _ => rfl)
  rw [cnt_all] at h2
  have := sumP_take (L := A) k h
  omega

set_option maxRecDepth 100000 in
set_option maxHeartbeats 1000000 in
theorem rup_any (w : World) (a : Option Addr) (cap : Nat) (A : List PairV) (x n : Int) (h : Pairs w a A) (hx : I64 x) (hl : A.length ≤ 1000) (hb : sumP A < 18446744073709551616) (hn : upV A x = n) :
    Calls Tryd.prog 42 #[.slice a A.length cap, .int .i64 x] w fun e w' => e = .returned (.int .u64 n) ∧ Below w.heap.size w w' := by
  have HI := Lib.hid h
  have HN := Lib.hid hn
  have HP := Lib.hid (fun k => cnt_part (f := fun y => decide (y ≤ x)) (A := A) k (ok_pos h.ok))
  obtain ⟨x0, x1⟩ := hx
  clear h hn
  go_enter Tryd.func42, Tryd.ntmps42
  go_wp2_with fail
  go_loopw [5, 10] (fun s j wr => ∃ (k : Nat) (m : Int), k ≤ A.length ∧ j = .int .i64 k ∧ s = .int .u64 m ∧ m = cntV (fun y => decide (y ≤ x)) (A.take k) ∧ Below w.heap.size w wr) (fun _ j _ => A.length - (intOf j).toNat)
  case atStart => exact ⟨0, 0, Nat.zero_le _, rfl, rfl, rfl, Below.refl _ _⟩
  case round =>
    obtain ⟨k, m, hk, rfl, rfl, hm, hb2⟩ := hrel
    have HM := Lib.hid hm
    by_cases hlt : k < A.length
    · have kk : (k : Int) < A.length := by omega
      have hxk : A[k]? = some A[k] := List.getElem?_eq_getElem hlt
      generalize hit : A[k] = p at *
      obtain ⟨px, pc⟩ := p
      obtain ⟨b, off, rfl, hbl, c0, c1⟩ := (HI.out.call hb2).at_ k _ hxk
      have HS := Lib.hid (cnt_take (f := fun y => decide (y ≤ x)) hxk)
      have hok := HI.out.ok _ (List.mem_of_getElem? hxk)
      have p1 := HP.out (k + 1)
      have p0 := HP.out k
      rw [HS.out] at p1
      rw [← hm] at p0 p1
      have hbs := hb2.size
      obtain ⟨⟨o1, o2⟩, o3, o4⟩ := hok
      simp only [decide_eq_true_eq] at c0 c1 o1 o2 o3 o4 p1 HS
      clear hxk hit hm
      by_cases he : px ≤ x
      · rw [if_pos he] at p1 HS
        obtain ⟨p2, p3⟩ := p1
        obtain ⟨p4, _⟩ := p0
        go_wp2_with fail
        go_roundw
        case rel => exact ⟨k + 1, m + pc, by omega, by go_num, rfl, by rw [HS.out, HM.out], hb2.alloc hbs _⟩
        case measure => simp [intOf]; omega
      · rw [if_neg he] at p1 HS
        clear p0 p1
        go_wp2_with fail
        go_roundw
        case rel => exact ⟨k + 1, m, by omega, by go_num, rfl, by rw [HS.out, HM.out, Int.add_zero], hb2.alloc hbs _⟩
        case measure => simp [intOf]; omega
    · obtain rfl : k = A.length := by omega
      rw [List.take_length] at HM
      have E : Hid (m = n) := Lib.hid (by rw [HM.out]; exact HN.out)
      have kk : ¬ (A.length : Int) < A.length := by omega
      clear hm
      go_wp2_with fail
      go_ret
      exact ⟨ret_int E.out, hb2⟩
end Go.Proofs.YtojincgbnjkegaaDoor

/-
  Walks: the reference of layer 13: Row, Kept, Stands.
-/
namespace Go.Proofs.YtojincgbnjkegaaDoor
set_option linter.unusedVariables false
set_option linter.unusedSimpArgs false
open Go.RowKit

theorem rowv_step {P : Pt} {b : Bool} {A : List PairV} {k : Nat} {p : PairV} (h : A[k]? = some p) : rowV P b (A.take (k + 1)) = if sideV b p.1 = true then addP (rowV P b (A.take k)) (P.idx (mag p.1)) p.2 else rowV P b (A.take k) := by
  rw [take_snocP h, row_snoc]
theorem keep2r {B : Nat} {W w w' : World} {x y : Value} (h : w.cell? ⟨B, 0, none⟩ = some x ∧ w.cell? ⟨B, 1, none⟩ = some y ∧ Below W.heap.size W w) (hb : Below w.heap.size w w') :
    w'.cell? ⟨B, 0, none⟩ = some x ∧ w'.cell? ⟨B, 1, none⟩ = some y ∧ Below W.heap.size W w' :=
  ⟨cell_later hb h.1, cell_later hb h.2.1, h.2.2.trans (hb.mono h.2.2.size)⟩

set_option maxRecDepth 100000 in
set_option maxHeartbeats 2000000 in
theorem rrow13_any (w : World) (M : Nat) (P : Pt) (s : Bool) (m : Int) (A : List PairV) (b : Bool) (h : RefN w M P s m A) (hP : P.ok) (hf : FineV A) (hl : A.length ≤ 1000) :
    Calls Tryd.prog 44 #[.pointer (some ⟨M, 0, none⟩), .bool b] w fun e w' => ∃ v, e = .returned v ∧ OwnP w' w.heap.size v (rowV P b A) ∧ Below w.heap.size w w' := by
  have HR := Lib.hid h
  have HPP := Lib.hid hP
  have HF := Lib.hid hf
  obtain ⟨lo, re, dg, a, cap, hp, hv, hc⟩ := h.cells
  have c5 := hc.c5
  have HI := Lib.hid hv
  clear h hP hf hp hv hc
  go_enter Tryd.func44, Tryd.ntmps44
  go_wp2_with fail
  go_loopw [5, 13] (fun o j wr => ∃ k : Nat, k ≤ A.length ∧ j = .int .i64 k ∧ OwnP wr w.heap.size o (rowV P b (A.take k)) ∧ Below w.heap.size w wr) (fun _ j _ => A.length - (intOf j).toNat)
  case atStart => exact ⟨0, Nat.zero_le _, rfl, OwnP.nil _ _, Below.refl _ _⟩
  case round =>
    obtain ⟨k, hk, rfl, ho, hb2⟩ := hrel
    by_cases hlt : k < A.length
    · have kk : (k : Int) < A.length := by omega
      have hxk : A[k]? = some A[k] := List.getElem?_eq_getElem hlt
      have HFK := Lib.hid (fine_take HF.out k)
      generalize hit : A[k] = p at *
      obtain ⟨px, pc⟩ := p
      obtain ⟨bb, off, rfl, hbl, c0, c1⟩ := (HI.out.call hb2).at_ k _ hxk
      have HS := Lib.hid (rowv_step (P := P) (b := b) hxk)
      have hfp := HF.out _ (List.mem_of_getElem? hxk)
      have HFP := Lib.hid hfp
      have hbs := hb2.size
      obtain ⟨⟨o1, o2⟩, o3, o4⟩ := hfp
      simp only at c0 c1 o1 o2 o3 o4 HS HFP
      have HB3 := Lib.hid (hb2.alloc hbs (.cells #[.int .i64 px, .int .u64 pc] 67))
      have HO3 := Lib.hid (ho.call ((Below.refl wr.heap.size wr).alloc (Nat.le_refl _) (.cells #[.int .i64 px, .int .u64 pc] 67)))
      clear hxk hit ho
      by_cases hz : px = 0
      · have hsd : sideV b px = false := by rw [hz]; cases b <;> rfl
        rw [hsd] at HS
        subst hz
        go_wp2_with fail
        go_roundw
        case rel => exact ⟨k + 1, by omega, by go_num, by rw [HS.out]; exact HO3.out, HB3.out⟩
        case measure => simp [intOf]; omega
      · have z1 : (px == 0) = false := by simp [hz]
        have z2 : (!px == 0) = true := by simp [hz]
        by_cases hs : sideV b px = true
        · rw [if_pos hs] at HS
          have hd : (decide (px < 0) == b) = true := by unfold sideV at hs; rw [z1] at hs; simpa using hs
          have HMG := Lib.hid (mag_in HFP.out.1 hz)
          have hmw : Word (mag px) := mag_word HFP.out.1
          have HIX := Lib.hid (pt_idx HPP.out HMG.out.1 HMG.out.2)
          have HS50 := Lib.hid (row_sum50 HPP.out b HFK.out (by have := List.length_take_le' k A; omega))
          obtain ⟨mg, hmg⟩ : ∃ mg, mag px = mg := ⟨_, rfl⟩
          rw [hmg] at HS HMG HIX hmw
          have HSZ := Lib.hid (fun W => size_any px HFP.out.1 W)
          rw [hmg] at HSZ
          obtain ⟨i, hi⟩ : ∃ i, P.idx mg = i := ⟨_, rfl⟩
          rw [hi] at HS HIX
          have HPT := Lib.hid (fun W hW => rpart13_any W M P s m A mg i hW HPP.out HMG.out.1 HMG.out.2 hi)
          have hcn := count_le_sum i (ok_pos HS50.out.ok)
          have hs50 := HS50.out.sum
          have hl50 := HS50.out.len
          have htl := List.length_take_le' k A
          obtain ⟨n, hn⟩ : ∃ n, countP (rowV P b (A.take k)) i + pc = n := ⟨_, rfl⟩
          have hnb : n < 18446744073709551616 := by
            have : ((A.take k).length : Int) * 1125899906842624 ≤ 1000 * 1125899906842624 := Int.mul_le_mul_of_nonneg_right (by omega) (by omega)
            omega
          have hrl : (rowV P b (A.take k)).length ≤ 1000 := by omega
          obtain ⟨ra, rcap, hu, hpr⟩ := HO3.out.pairs HS50.out.ok
          subst hu
          have HPR := Lib.hid hpr
          have HAD := Lib.hid (fun W hW => radd_any W ra rcap (rowV P b (A.take k)) i pc n hW hrl (by have := HIX.out; unfold I64; omega) (by unfold Word; omega) hn hnb)
          have HRW := Lib.hid (HR.out.call HB3.out)
          obtain ⟨rn, hrn⟩ : ∃ rn : Nat, (rowV P b (A.take k)).length = rn := ⟨_, rfl⟩
          rw [hrn] at HAD
          clear hmg hi hn hnb hcn hs50 hl50 htl hrl hpr HS50 HO3
          go_wp2_with fail
          have v0 : (wr.alloc (.cells #[.int .i64 px, .int .u64 pc] 67)).cell? ⟨wr.heap.size, 0, none⟩ = some (.int .i64 px) := by go_simp
          have v1 : (wr.alloc (.cells #[.int .i64 px, .int .u64 pc] 67)).cell? ⟨wr.heap.size, 1, none⟩ = some (.int .u64 pc) := by go_simp
          have hbz : w.heap.size ≤ (wr.alloc (.cells #[.int .i64 px, .int .u64 pc] 67)).heap.size := by simp; omega
          generalize (wr.alloc (.cells #[.int .i64 px, .int .u64 pc] 67)) = wB at *
          have BB : Below wB.heap.size wB wB.drew := (Below.refl _ _).drew
          go_region_held3 (fun w' => w'.cell? ⟨wr.heap.size, 0, none⟩ = some (.int .i64 px) ∧ w'.cell? ⟨wr.heap.size, 1, none⟩ = some (.int .u64 pc) ∧ Below wB.heap.size wB w')
            ((first | exact ⟨v0, v1, BB⟩ | exact keep2r (by assumption) hbA | assumption))
            (first
              | (go_at_call 30; refine (HSZ.out _).mono ?_; rintro e wA ⟨rfl, rfl⟩)
              | (go_at_call 72; refine (HPT.out _ (HRW.out.call (by assumption : _ ∧ _ ∧ Below _ _ _).2.2)).mono ?_; rintro e wA ⟨rfl, hbA⟩)
              | (go_at_call 71; refine (HAD.out _ (HPR.out.call (by assumption : _ ∧ _ ∧ Below _ _ _).2.2)).mono ?_; rintro e wA ⟨v, rfl, hO', hbA⟩; have hO := own_mono8 hO' (Nat.le_trans hbz (by assumption : _ ∧ _ ∧ Below _ _ _).2.2.size)))
          all_goals
            go_wp2_with fail
            go_roundw
            case rel => exact ⟨k + 1, by omega, by go_num, by rw [HS.out]; exact hO, HB3.out.trans ((by assumption : _ ∧ _ ∧ Below _ _ _).2.2.mono hbz)⟩
            case measure => simp [intOf]; omega
        · rw [if_neg hs] at HS
          have hd : (decide (px < 0) == b) = false := by unfold sideV at hs; rw [z1] at hs; simpa using hs
          go_wp2_with fail
          go_roundw
          case rel => exact ⟨k + 1, by omega, by go_num, by rw [HS.out]; exact HO3.out, HB3.out⟩
          case measure => simp [intOf]; omega
    · obtain rfl : k = A.length := by omega
      rw [List.take_length] at ho
      have kk : ¬ (A.length : Int) < A.length := by omega
      go_wp2_with fail
      go_ret
      exact ⟨_, rfl, ho, hb2⟩
theorem ret_vi {v : Value} {a b : Int} (h : a = b) : Ending.returned (.tuple #[v, .int .u64 a]) = .returned (.tuple #[v, .int .u64 b]) := by rw [h]

set_option maxRecDepth 100000 in
set_option maxHeartbeats 2000000 in
theorem rstands_any (w : World) (M : Nat) (P : Pt) (s : Bool) (m : Int) (A : List PairV) (x y : Int) (h : RefN w M P s m A) (hP : P.ok) (hx : I64 x) (hy : standV P x = y) :
    Calls Tryd.prog 37 #[.pointer (some ⟨M, 0, none⟩), .int .i64 x] w fun e w' => e = .returned (.int .i64 y) ∧ Below w.heap.size w w' := by
  by_cases x0 : x = 0
  · subst x0
    have e : y = 0 := by rw [← hy]; rfl
    subst e
    clear h hy
    go_enter Tryd.func37, Tryd.ntmps37
    go_wp2_with fail
    go_ret
    exact ⟨rfl, Below.refl _ _⟩
  obtain ⟨g1, g2⟩ := mag_in hx x0
  have hpi := pt_idx hP g1 g2
  have HSZ := Lib.hid (size_any x hx w)
  have z1 : (x == 0) = false := by simp [x0]
  obtain ⟨x1, x2⟩ := hx
  obtain ⟨mg, hmg⟩ : ∃ mg, mag x = mg := ⟨_, rfl⟩
  obtain ⟨r, hr⟩ : ∃ r, P.rep (P.idx mg) = r := ⟨_, rfl⟩
  have hst : (0 < x → min r 9223372036854775807 = y) ∧ (x < 0 → -r = y) := by
    have hs : standV P x = if x = 0 then 0 else if x < 0 then -(P.rep (P.idx (mag x))) else min (P.rep (P.idx (mag x))) 9223372036854775807 := rfl
    rw [hmg, hr] at hs
    rw [if_neg x0] at hs
    constructor
    · intro c; rw [if_neg (by omega)] at hs; rw [← hs]; exact hy
    · intro c; rw [if_pos c] at hs; rw [← hs]; exact hy
  rw [hmg] at HSZ hpi g1 g2
  rw [hr] at hpi
  obtain ⟨i0, i1, r1, r2⟩ := hpi
  obtain ⟨lo, re, dg, a, cap, hp, hv, hc⟩ := h.cells
  have c0 := hc.c0
  have c1 := hc.c1
  have c2 := hc.c2
  clear h hv hc hmg hy
  have fin : ∀ (K : Prop), K → K := fun _ k => k
  have HE : Hid ((0 < x → min r 9223372036854775807 = y) ∧ (x < 0 → r ≠ 9223372036854775808 → -r = y) ∧ (x < 0 → r = 9223372036854775808 → y = -9223372036854775808)) := Lib.hid (by
    refine ⟨fun c => ?_, fun c d => ?_, fun c d => ?_⟩
    · exact hst.1 c
    · exact hst.2 c
    · have := hst.2 c; omega)
  clear hst fin
  cases P with
  | cells u v n =>
    obtain ⟨rfl, g, k, c, c', rfl, rfl, _, _, hl, hk⟩ := hp
    obtain ⟨hg, ht, hn⟩ := hP
    obtain ⟨j, hj, e, ja, jb⟩ := idx_at hg ht g1 g2
    have hcr := hk j hj
    have hjr : repC u v (lowC u v j) = r := by
      rw [← hr]
      show _ = if 0 ≤ ((idxC u v n mg : Nat) : Int) ∧ ((idxC u v n mg : Nat) : Int) < n then repC u v (lowC u v ((idxC u v n mg : Nat) : Int).toNat) else 0
      rw [e, if_pos ⟨by omega, by omega⟩, Int.toNat_natCast]
    rw [hjr] at hcr
    have HF := Lib.hid (fun W (hb : Below w.heap.size w W) => rfind11_any W g c u v mg j n hn (by unfold Word; omega) (fun j hj => by have := low_pos hg j; have := ht.1 j hj; omega) (fun q hq => cell_later hb (hl q hq)) (by rw [lastc_idx hg ht g1 g2, e]))
    have kj : (j : Int) < n := by omega
    have j0 : (0 : Int) ≤ j := by omega
    clear hl hk hg ht e ja jb hjr hr
    have BB : Below w.heap.size w w.drew := (Below.refl _ _).drew
    go_enter Tryd.func37, Tryd.ntmps37
    go_wp2_with fail
    refine HSZ.out.mono ?_
    rintro e w2 ⟨rfl, rfl⟩
    go_wp2_with fail
    go_region_held3 (fun w' => w'.cell? ⟨M, 0, none⟩ = some (.slice (some ⟨g, 0, none⟩) n c) ∧ w'.cell? ⟨M, 1, none⟩ = some (.slice (some ⟨k, 0, none⟩) n c') ∧ w'.cell? ⟨k, j, none⟩ = some (.int .u64 r) ∧ Below w.heap.size w w')
      ((first | exact ⟨c0, c1, hcr, BB⟩ | exact ⟨cell_later hbA (by assumption : _ ∧ _ ∧ _ ∧ Below _ _ _).1, cell_later hbA (by assumption : _ ∧ _ ∧ _ ∧ Below _ _ _).2.1, cell_later hbA (by assumption : _ ∧ _ ∧ _ ∧ Below _ _ _).2.2.1, (by assumption : _ ∧ _ ∧ _ ∧ Below _ _ _).2.2.2.trans (hbA.mono (by assumption : _ ∧ _ ∧ _ ∧ Below _ _ _).2.2.2.size)⟩ | assumption))
      (first
        | (go_at_call 65; refine (HF.out _ (by assumption : _ ∧ _ ∧ _ ∧ Below _ _ _).2.2.2).mono ?_; rintro e wA ⟨rfl, hbA⟩))
    all_goals
      have hBL := (by assumption : _ ∧ _ ∧ _ ∧ Below _ _ _).2.2.2
      by_cases xp : 0 < x
      · go_wp2_with fail
        go_ret
        exact ⟨ret_int (HE.out.1 xp), hBL⟩
      · have xn : x < 0 := by omega
        by_cases hr9 : r = 9223372036854775808
        · have E := Lib.hid (HE.out.2.2 xn hr9)
          subst hr9
          go_wp2_with fail
          go_ret
          exact ⟨ret_int E.out.symm, hBL⟩
        · have z2 : (r == 9223372036854775808) = false := by simp [hr9]
          have E := Lib.hid (HE.out.2.1 xn hr9)
          go_wp2_with fail
          go_ret
          exact ⟨ret_int E.out, hBL⟩
  | spans d L T =>
    obtain ⟨rfl, rfl, rfl⟩ := hp
    have hs : SpanP dg L T := hP
    have d0 : 0 < dg := by unfold SpanP at hs; omega
    have HF := Lib.hid (rrange12_any dg L T mg hs g1 g2 w)
    obtain ⟨s1, s2, s3, s4⟩ := span_in L g1 g2 (spanp_log hs).2
    have hrr : loS L mg + (hiS L mg - loS L mg) / 2 = r := by
      rw [← hr]
      show _ = if 1 ≤ idxS L mg ∧ idxS L mg ≤ lastS L then midS (lowI L (idxS L mg)) (highI L (idxS L mg)) else 0
      rw [if_pos ⟨idx_bd L g1 g2 (spanp_log hs).2, idx_last L g1 g2 (spanp_log hs).2⟩, low_idx L g1 g2 (spanp_log hs).2, high_idx L g1 g2 (spanp_log hs).2]; rfl
    generalize loS L mg = sl at *
    generalize hiS L mg = sh at *
    clear hr hs hP
    go_enter Tryd.func37, Tryd.ntmps37
    go_wp2_with fail
    refine HSZ.out.mono ?_
    rintro e w2 ⟨rfl, rfl⟩
    go_wp2_with fail
    refine HF.out.mono ?_
    rintro e w2 ⟨rfl, rfl⟩
    by_cases xp : 0 < x
    · have E := Lib.hid (HE.out.1 xp)
      go_wp2_with fail
      go_ret
      exact ⟨ret_int E.out, Below.refl _ _⟩
    · have xn : x < 0 := by omega
      by_cases hr9 : r = 9223372036854775808
      · have E := Lib.hid (HE.out.2.2 xn hr9)
        have z2 : (r == 9223372036854775808) = true := by simp [hr9]
        go_wp2_with fail
        go_ret
        exact ⟨ret_int E.out.symm, Below.refl _ _⟩
      · have z2 : (r == 9223372036854775808) = false := by simp [hr9]
        have E := Lib.hid (HE.out.2.1 xn hr9)
        go_wp2_with fail
        go_ret
        exact ⟨ret_int E.out, Below.refl _ _⟩
end Go.Proofs.YtojincgbnjkegaaDoor

/-
  Walks: a table of cells in memory, and all calls that read it, of a nil one too.
-/
namespace Go.Proofs.YtojincgbnjkegaaDoor
set_option linter.unusedVariables false
set_option linter.unusedSimpArgs false
open Go.RowKit

/-- The first n cells of a closeness. -/
def rowC (u v : Int) (n : Nat) : List CellV := (List.range n).map fun i => (endC u v (lowC u v i), repC u v (lowC u v i))
theorem rowC_len (u v : Int) (n : Nat) : (rowC u v n).length = n := by unfold rowC; simp
theorem rowC_at (u v : Int) {n i : Nat} (h : i < n) : (rowC u v n)[i]? = some (endC u v (lowC u v i), repC u v (lowC u v i)) := by
  unfold rowC; rw [List.getElem?_map, List.getElem?_range h]; rfl
theorem rowC_succ (u v : Int) (n : Nat) : rowC u v (n + 1) = rowC u v n ++ [(endC u v (lowC u v n), repC u v (lowC u v n))] := by
  unfold rowC; rw [List.range_succ, List.map_append]; rfl

end Go.Proofs.YtojincgbnjkegaaDoor
/-
  Walks: the reference of layer 13: Exact, Find, New.
-/
namespace Go.Proofs.YtojincgbnjkegaaDoor
set_option linter.unusedVariables false
set_option linter.unusedSimpArgs false
open Go.RowKit

theorem find_take_none {A : List PairV} {f : PairV → Bool} {k : Nat} {p : PairV} (h : A[k]? = some p) (h1 : (A.take k).find? f = none) (h2 : f p = false) : (A.take (k + 1)).find? f = none := by
  rw [take_snocP h, List.find?_append, h1, List.find?_cons, h2]; rfl
theorem find_take_some {A : List PairV} {f : PairV → Bool} {k : Nat} {p : PairV} (h : A[k]? = some p) (h1 : (A.take k).find? f = none) (h2 : f p = true) : A.find? f = some p := by
  have e : A = A.take (k + 1) ++ A.drop (k + 1) := (List.take_append_drop _ _).symm
  rw [e, List.find?_append, take_snocP h, List.find?_append, h1, List.find?_cons, h2]; rfl

set_option maxRecDepth 100000 in
set_option maxHeartbeats 4000000 in
theorem rexact_any (w : World) (a : Option Addr) (cap : Nat) (A : List PairV) (t x : Int) (b : Bool) (h : Pairs w a A) (ht : Word t) (hl : A.length ≤ 1000) (hb : sumP A < 9223372036854775808) (hx : (exactV A t).getD 0 = x) (hs : (exactV A t).isSome = b) :
    Calls Tryd.prog 19 #[.slice a A.length cap, .int .u64 t] w fun e w' => e = .returned (.tuple #[.int .i64 x, .bool b]) ∧ Below w.heap.size w w' := by
  have HI := Lib.hid h
  have HX := Lib.hid hx
  have HSB := Lib.hid hs
  have HP := Lib.hid (fun (f : Int → Bool) k => cnt_part (f := f) (A := A) k (ok_pos h.ok))
  obtain ⟨t0, t1⟩ := ht
  clear h hx hs
  go_enter Tryd.func19, Tryd.ntmps19
  go_wp2_with fail
  go_loopw [14] (fun j wr => ∃ k : Nat, k ≤ A.length ∧ j = .int .i64 k ∧ (A.take k).find? (isV A t) = none ∧ Below w.heap.size w wr) (fun j _ => A.length - (intOf j).toNat)
  case atStart => exact ⟨0, Nat.zero_le _, rfl, rfl, Below.refl _ _⟩
  case round =>
    obtain ⟨k, hk, rfl, hfn, hb2⟩ := hrel
    have HFN := Lib.hid hfn
    clear hfn
    by_cases hlt : k < A.length
    · have kk : (k : Int) < A.length := by omega
      have hxk : A[k]? = some A[k] := List.getElem?_eq_getElem hlt
      have HXK := Lib.hid hxk
      generalize hit : A[k] = p at *
      obtain ⟨px, pc⟩ := p
      obtain ⟨bb, off, rfl, hbl, c0, c1⟩ := (HI.out.call hb2).at_ k _ hxk
      have hok := HI.out.ok _ (List.mem_of_getElem? hxk)
      have hbs := hb2.size
      obtain ⟨⟨o1, o2⟩, o3, o4⟩ := hok
      simp only at c0 c1 o1 o2 o3 o4
      have HB3 := Lib.hid (hb2.alloc hbs (.cells #[.int .i64 px, .int .u64 pc] 67))
      have v0 : (wr.alloc (.cells #[.int .i64 px, .int .u64 pc] 67)).cell? ⟨wr.heap.size, 0, none⟩ = some (.int .i64 px) := by go_simp
      have vlt : wr.heap.size < (wr.alloc (.cells #[.int .i64 px, .int .u64 pc] 67)).heap.size := by simp
      clear hxk hit
      go_wp2_with fail
      generalize (wr.alloc (.cells #[.int .i64 px, .int .u64 pc] 67)) = wB at *
      obtain ⟨V, hV⟩ : ∃ V, wr.heap.size = V := ⟨_, rfl⟩
      rw [hV] at v0 vlt ⊢
      go_loopw [8, 9, 20] (fun s q j wz => ∃ i : Nat, i ≤ A.length ∧ j = .int .i64 i ∧ s = .int .u64 (cntV (fun y => decide (y < px)) (A.take i)) ∧ q = .int .u64 (cntV (fun y => y == px) (A.take i)) ∧ Below wB.heap.size wB wz) (fun _ _ j _ => A.length - (intOf j).toNat)
      case atStart => exact ⟨0, Nat.zero_le _, rfl, rfl, rfl, Below.refl _ _⟩
      case round =>
        obtain ⟨i, hi, rfl, rfl, rfl, hb4⟩ := hrel
        have hbs4 := hb4.size
        have vlt4 : V < wr.heap.size := by omega
        have z0 := cell_later hb4 v0
        have g1 := HP.out (fun y => decide (y < px)) i
        have g2 := HP.out (fun y => y == px) i
        obtain ⟨cl, hcl⟩ : ∃ cl, cntV (fun y => decide (y < px)) (A.take i) = cl := ⟨_, rfl⟩
        obtain ⟨cs, hcs⟩ : ∃ cs, cntV (fun y => y == px) (A.take i) = cs := ⟨_, rfl⟩
        have HCL := Lib.hid hcl
        have HCS := Lib.hid hcs
        rw [hcl] at g1 ⊢
        rw [hcs] at g2 ⊢
        obtain ⟨g11, g12⟩ := g1
        obtain ⟨g21, g22⟩ := g2
        clear hcl hcs
        by_cases hli : i < A.length
        · have ki : (i : Int) < A.length := by omega
          have hyk : A[i]? = some A[i] := List.getElem?_eq_getElem hli
          generalize hit : A[i] = p at *
          obtain ⟨qx, qc⟩ := p
          obtain ⟨b2, of2, e2, hbl2, d0, d1⟩ := (HI.out.call (HB3.out.trans (hb4.mono HB3.out.size))).at_ i _ hyk
          obtain ⟨rfl, rfl⟩ : bb = b2 ∧ off = of2 := by simpa using e2
          have hok2 := HI.out.ok _ (List.mem_of_getElem? hyk)
          obtain ⟨⟨p1, p2⟩, p3, p4⟩ := hok2
          have HS1 := Lib.hid (cnt_take (f := fun y => decide (y < px)) hyk)
          have HS2 := Lib.hid (cnt_take (f := fun y => y == px) hyk)
          have n1 := HP.out (fun y => decide (y < px)) (i + 1)
          have n2 := HP.out (fun y => y == px) (i + 1)
          rw [HS1.out, HCL.out] at n1
          rw [HS2.out, HCS.out] at n2
          simp only [decide_eq_true_eq, beq_iff_eq] at d0 d1 p1 p2 p3 p4 HS1 HS2 n1 n2
          clear hyk hit e2
          by_cases hq : qx < px
          · have e1 : ¬ qx = px := by omega
            have e3 : (qx == px) = false := by simp [e1]
            rw [if_pos hq] at n1 HS1
            rw [if_neg e1] at n2 HS2
            obtain ⟨n11, n12⟩ := n1
            clear n2
            go_wp2_with fail
            go_roundw
            case rel => exact ⟨i + 1, by omega, by go_num, by rw [HS1.out, HCL.out], by rw [HS2.out, HCS.out, Int.add_zero], hb4.alloc hbs4 _⟩
            case measure => simp [intOf]; omega
          · by_cases e1 : qx = px
            · have e3 : (qx == px) = true := by simp [e1]
              rw [if_neg hq] at n1 HS1
              rw [if_pos e1] at n2 HS2
              obtain ⟨n21, n22⟩ := n2
              clear n1
              subst e1
              go_wp2_with fail
              go_roundw
              case rel => exact ⟨i + 1, by omega, by go_num, by rw [HS1.out, HCL.out, Int.add_zero], by rw [HS2.out, HCS.out], hb4.alloc hbs4 _⟩
              case measure => simp [intOf]; omega
            · have e3 : (qx == px) = false := by simp [e1]
              rw [if_neg hq] at n1 HS1
              rw [if_neg e1] at n2 HS2
              clear n1 n2
              go_wp2_with fail
              go_roundw
              case rel => exact ⟨i + 1, by omega, by go_num, by rw [HS1.out, HCL.out, Int.add_zero], by rw [HS2.out, HCS.out, Int.add_zero], hb4.alloc hbs4 _⟩
              case measure => simp [intOf]; omega
        · obtain rfl : i = A.length := by omega
          have ki : ¬ (A.length : Int) < A.length := by omega
          rw [List.take_length] at HCL HCS
          have HB5 := Lib.hid (HB3.out.trans (hb4.mono HB3.out.size))
          have his : isV A t (px, pc) = (decide (cl < t) && decide (t ≤ cl + cs)) := by
            have a1 : ltV A px = cl := HCL.out
            have a2 : eqV A px = cs := HCS.out
            unfold isV; rw [a1, a2]
          by_cases f1 : cl < t
          · by_cases f2 : t ≤ cl + cs
            · have ht : isV A t (px, pc) = true := by rw [his]; simp [f1, f2]
              have hsome : exactV A t = some px := by unfold exactV; rw [find_take_some HXK.out HFN.out ht]; rfl
              have E : Hid (px = x ∧ true = b) := Lib.hid (by have a1 := HX.out; have a2 := HSB.out; rw [hsome] at a1 a2; exact ⟨a1, a2⟩)
              clear his ht hsome
              go_wp2_with fail
              go_ret2
              exact ⟨ret_pair E.out.1 E.out.2, HB5.out⟩
            · have ht : isV A t (px, pc) = false := by rw [his]; simp [f1, f2]
              have HN := Lib.hid (find_take_none HXK.out HFN.out ht)
              clear his ht
              go_wp2_with fail
              go_roundw
              case rel => exact ⟨k + 1, by omega, by go_num, HN.out, HB5.out⟩
              case measure => simp [intOf]; omega
          · have ht : isV A t (px, pc) = false := by rw [his]; simp [f1]
            have HN := Lib.hid (find_take_none HXK.out HFN.out ht)
            have f1' : ¬ t > cl := by omega
            clear his ht
            go_wp2_with fail
            go_roundw
            case rel => exact ⟨k + 1, by omega, by go_num, HN.out, HB5.out⟩
            case measure => simp [intOf]; omega
    · obtain rfl : k = A.length := by omega
      rw [List.take_length] at HFN
      have hnone : exactV A t = none := by unfold exactV; rw [HFN.out]; rfl
      have E : Hid (0 = x ∧ false = b) := Lib.hid (by have a1 := HX.out; have a2 := HSB.out; rw [hnone] at a1 a2; exact ⟨a1, a2⟩)
      have kk : ¬ (A.length : Int) < A.length := by omega
      clear hnone
      go_wp2_with fail
      go_ret2
      exact ⟨ret_pair E.out.1 E.out.2, hb2⟩

theorem fine_fit {A : List PairV} (hf : FineV A) (hl : A.length ≤ 1000) : sumP A < 9223372036854775808 := by
  have := fine_sum hf
  have : (A.length : Int) * 1125899906842624 ≤ 1000 * 1125899906842624 := Int.mul_le_mul_of_nonneg_right (by omega) (by omega)
  omega

end Go.Proofs.YtojincgbnjkegaaDoor
/-
  Walks: the reference of layer 13: New; all its values set.
-/
namespace Go.Proofs.YtojincgbnjkegaaDoor
set_option linter.unusedVariables false
set_option linter.unusedSimpArgs false
open Go.RowKit

/-- The partition of a closeness, or of so many digits. -/
def PtOf (dg u v : Int) : Pt → Prop
  | .cells a b n => dg = 0 ∧ a = u ∧ b = v
  | .spans d L T => d = dg
/-- There is none such: no closeness, or too many cells. -/
def NoPt (dg u v : Int) : Prop := dg = 0 ∧ (goodC u v = false ∨ (GoodC u v ∧ lowC u v 4096 ≤ 9223372036854775808))
theorem pt_one {dg u v : Int} {P Q : Pt} (hP : P.ok) (hQ : Q.ok) (h : PtOf dg u v P) (k : PtOf dg u v Q) : P = Q := by
  cases P with
  | cells a b n =>
    obtain ⟨h0, rfl, rfl⟩ := h
    cases Q with
    | cells c d n' =>
      obtain ⟨_, rfl, rfl⟩ := k
      rw [tab_one hP.1 hP.2.1 hQ.2.1]
    | spans d L T =>
      have k' : d = dg := k
      have : SpanP d L T := hQ
      unfold SpanP at this; omega
  | spans d L T =>
    have h' : d = dg := h
    have hs : SpanP d L T := hP
    cases Q with
    | cells c e n' =>
      obtain ⟨k0, _, _⟩ := k
      unfold SpanP at hs; omega
    | spans e L' T' =>
      have k' : e = dg := k
      have hs' : SpanP e L' T' := hQ
      obtain rfl : d = e := by omega
      have : L = L' ∧ T = T' := by unfold SpanP at hs hs'; omega
      rw [this.1, this.2]
theorem pt_none {dg u v : Int} {P : Pt} (hP : P.ok) (h : PtOf dg u v P) (k : NoPt dg u v) : False := by
  cases P with
  | cells a b n =>
    obtain ⟨h0, rfl, rfl⟩ := h
    obtain ⟨g, t, hn⟩ := hP
    rcases k.2 with c | ⟨_, c⟩
    · rw [goodC_iff.2 g] at c; cases c
    · have := low_mono g hn
      rw [t.2] at this; omega
  | spans d L T =>
    have h' : d = dg := h
    have hs : SpanP d L T := hP
    have := k.1
    unfold SpanP at hs; omega
/-- The rows of cells lie in blocks that are not older. -/
def Far (n : Nat) (w : World) (M : Nat) : Prop := ∀ (o g l c : Nat), o = 0 ∨ o = 1 → w.cell? ⟨M, o, none⟩ = some (.slice (some ⟨g, 0, none⟩) l c) → n ≤ g
theorem far_block {n : Nat} {w : World} {M : Nat} {x0 x1 x2 x3 x4 x5 : Value} {t : TypeId} (hb : w.heap[M]? = some (.cells #[x0, x1, x2, x3, x4, x5] t (0, 0))) (h0 : ∀ g l c, x0 = .slice (some ⟨g, 0, none⟩) l c → n ≤ g) (h1 : ∀ g l c, x1 = .slice (some ⟨g, 0, none⟩) l c → n ≤ g) : Far n w M := by
  intro o g l c ho hc
  rw [Joins.cell_of_block hb] at hc
  rcases ho with rfl | rfl
  · exact h0 g l c (Option.some.inj hc)
  · exact h1 g l c (Option.some.inj hc)
theorem far_same {n : Nat} {w w' : World} {M : Nat} (h : Far n w M) (hk : w'.heap[M]? = w.heap[M]?) : Far n w' M := fun o g l c ho hc => h o g l c ho (by rw [← hc]; unfold World.cell?; simp only [hk])
/-- What New tells: the reference's bins, without values, or that there are none such. -/
def NewN (w : World) (dg u v : Int) (s : Bool) (m : Int) (e : Ending) (w' : World) : Prop :=
  (∃ M P, P.ok ∧ PtOf dg u v P ∧ e = .returned (.tuple #[.pointer (some ⟨M, 0, none⟩), .bool true]) ∧ RefN w' M P s m [] ∧ w.heap.size ≤ M ∧ Below w.heap.size w w' ∧ Far w.heap.size w' M) ∨
  (NoPt dg u v ∧ e = .returned (.tuple #[.pointer none, .bool false]) ∧ Below w.heap.size w w')

theorem setCell_other_heap {w : World} {g M o : Nat} {x : Value} (h : g ≠ M) (i : Nat) : (w.setCell ⟨M, o, none⟩ x).cell? ⟨g, i, none⟩ = w.cell? ⟨g, i, none⟩ :=
  World.cell?_setCell_other _ _ _ _ (two_far (fun e => h e.symm))
/-- All values set: the model of a partition has these. -/
theorem RefN.vals {w0 w : World} {M : Nat} {P : Pt} {s : Bool} {m : Int} {A : List PairV} {a : Option Addr} {cap : Nat} (h : RefN w M P s m []) (hv : Pairs w0 a A) (hb : Below w0.heap.size w0 w) (hM : w0.heap.size ≤ M) :
    RefN (w.setCell ⟨M, 5, none⟩ (.slice a A.length cap)) M P s m A := by
  obtain ⟨lo, re, dg, a0, cap0, h1, h2, h3⟩ := h.ex
  refine ⟨lo, re, dg, a, cap, ?_, hv.call (hb.setCell (p := ⟨M, 5, none⟩) hM _), ?_⟩
  · cases P with
    | cells u v n =>
      obtain ⟨h0, g, k, c, c', e1, e2, n1, n2, e3, e4⟩ := h1
      exact ⟨h0, g, k, c, c', e1, e2, n1, n2, fun i hi => (setCell_other_heap n1 i).trans (e3 i hi), fun i hi => (setCell_other_heap n2 i).trans (e4 i hi)⟩
    | spans d L T => exact h1
  · rw [Joins.block_setCell h3]; rfl

theorem ownw_some {w : World} {base n cap : Nat} {A : Option Addr} {L : List Int} (h : OwnW w base (.slice A n cap) L) (hn : 1 ≤ L.length) : ∃ g, A = some ⟨g, 0, none⟩ ∧ base ≤ g ∧ ∀ i x, L[i]? = some x → w.cell? ⟨g, i, none⟩ = some (.int .u64 x) := by
  have hh : w.ownsRow base 23 1 (.slice A n cap) L.length (wordsL L) := h
  rcases hh.2 with ⟨e, h0⟩ | ⟨g, cap', cur, e, hb, hg, r⟩
  · omega
  · have e' := e
    injection e' with e1 e2 e3
    subst e1
    refine ⟨g, rfl, hb, fun i x hi => ?_⟩
    obtain ⟨g', eg, _, hc⟩ := h.at_ hi
    have : g = g' := by simpa using eg
    rw [this]; exact hc

end Go.Proofs.YtojincgbnjkegaaDoor
/-
  Walks: the reference of layer 14: Ends, Quantile; what a sketch answers, as mathematics.
-/
namespace Go.Proofs.YtojincgbnjkegaaDoor
set_option linter.unusedVariables false
set_option linter.unusedSimpArgs false
open Go.RowKit

/-- What a sketch answers: a value, and the error's number. -/
def quanE (P : Pt) (s : Bool) (st : St) (lo hi a b : Int) : Int × Int :=
  if plE a b st.all = 0 then (match findSt P s st (plV a b st.all) with | none => (0, 9) | some x => (clampV lo hi x, 0)) else (0, plE a b st.all)
def quanA (P : Pt) (s : Bool) (m : Int) (A : List PairV) (a b : Int) : Int × Int :=
  if plE a b (sumP A) = 0 then (match askV P s m A (plV a b (sumP A)) with | none => (0, 9) | some x => (clampV (loV A) (hiV A) x, 0)) else (0, plE a b (sumP A))
theorem ple_zero (a b : Int) : plE a b 0 ≠ 0 := by
  unfold plE; split
  · rw [if_pos rfl]; decide
  · decide
theorem quan_same {P : Pt} (hP : P.ok) (s : Bool) {m : Int} (hm : 0 < m) {A : List PairV} (h : FineV A) (hl : A.length ≤ 1000) {lo hi : Int} (he : A ≠ [] → lo = loV A ∧ hi = hiV A) (a b : Int) : quanE P s (stV P s m A) lo hi a b = quanA P s m A a b := by
  unfold quanE quanA
  rw [stv_all hP s m h hl]
  by_cases hA : A = []
  · subst hA
    have : plE a b (sumP []) ≠ 0 := ple_zero a b
    rw [if_neg this, if_neg this]
  · obtain ⟨rfl, rfl⟩ := he hA
    rw [find_ask hP s hm h hl]
/-- Ends of values that are some. -/
theorem ends_i64 {A : List PairV} (h : FineV A) : I64 (loV A) ∧ I64 (hiV A) := by
  by_cases hA : A = []
  · subst hA; exact ⟨⟨by decide, by decide⟩, ⟨by decide, by decide⟩⟩
  · obtain ⟨⟨x, hx, ex⟩, _⟩ := lov_facts hA
    obtain ⟨⟨y, hy, ey⟩, _⟩ := hiv_facts hA
    exact ⟨ex ▸ (h x hx).1, ey ▸ (h y hy).1⟩
theorem clamp_i64 {lo hi x : Int} (h1 : I64 lo) (h2 : I64 hi) (h3 : I64 x) : I64 (clampV lo hi x) := by
  unfold I64 at *; unfold clampV; omega
theorem clamp_eq (lo hi x : Int) : min (max x lo) hi = clampV lo hi x := rfl
/-- What Ends tells of values. -/
def endA (A : List PairV) : Int × Int × Bool := if A = [] then (0, 0, false) else (loV A, hiV A, true)
theorem lov_cons {v : PairV} {r : List PairV} : loV (v :: r) = loF v.1 (v :: r) := rfl
theorem hiv_cons {v : PairV} {r : List PairV} : hiV (v :: r) = hiF v.1 (v :: r) := rfl
theorem ret_ends {a b x y : Int} {c : Bool} (h : a = x) (h' : b = y) : Ending.returned (.tuple #[.int .i64 a, .int .i64 b, .bool c]) = .returned (.tuple #[.int .i64 x, .int .i64 y, .bool c]) := by rw [h, h']
theorem ret_err {a b x y : Int} (h : a = x) (h' : b = y) : Ending.returned (.tuple #[.int .i64 a, .int .i64 b]) = .returned (.tuple #[.int .i64 x, .int .i64 y]) := by rw [h, h']
theorem lof_bd {A : List PairV} (h : ∀ p, p ∈ A → okP p) {x : Int} (hx : I64 x) : I64 (loF x A) := by
  rcases lof_mem A x with e | ⟨v, hv, e⟩
  · rw [e]; exact hx
  · rw [← e]; exact (h v hv).1
theorem hif_bd {A : List PairV} (h : ∀ p, p ∈ A → okP p) {x : Int} (hx : I64 x) : I64 (hiF x A) := by
  rcases hif_mem A x with e | ⟨v, hv, e⟩
  · rw [e]; exact hx
  · rw [← e]; exact (h v hv).1

set_option maxRecDepth 100000 in
set_option maxHeartbeats 1000000 in
theorem rends_any (w : World) (a : Option Addr) (cap : Nat) (A : List PairV) (x y : Int) (b : Bool) (h : Pairs w a A) (hl : A.length ≤ 1000) (he : endA A = (x, y, b)) :
    Calls Tryd.prog 36 #[.slice a A.length cap] w fun e w' => e = .returned (.tuple #[.int .i64 x, .int .i64 y, .bool b]) ∧ Below w.heap.size w w' := by
  have HI := Lib.hid h
  cases A with
  | nil =>
    have e : endA [] = (0, 0, false) := rfl
    rw [e] at he
    obtain ⟨rfl, rfl, rfl⟩ : 0 = x ∧ 0 = y ∧ false = b := by simpa using he
    clear h he e
    go_enter Tryd.func36, Tryd.ntmps36
    go_wp2_with fail
    go_ret3
    exact ⟨rfl, Below.refl _ _⟩
  | cons p0 r =>
    have e : endA (p0 :: r) = (loF p0.1 (p0 :: r), hiF p0.1 (p0 :: r), true) := by unfold endA; rw [if_neg (by simp)]; rfl
    rw [e] at he
    obtain ⟨h1, h2, rfl⟩ : loF p0.1 (p0 :: r) = x ∧ hiF p0.1 (p0 :: r) = y ∧ true = b := by simpa using he
    have HX := Lib.hid h1
    have HY := Lib.hid h2
    have h0 : (p0 :: r)[0]? = some p0 := rfl
    have n0 : 0 < (p0 :: r).length := by simp
    have HLB := Lib.hid (fun k => lof_bd (A := (p0 :: r).take k) (fun p hp => h.ok p (List.mem_of_mem_take hp)) (h.ok _ (List.mem_of_getElem? h0)).1)
    have HHB := Lib.hid (fun k => hif_bd (A := (p0 :: r).take k) (fun p hp => h.ok p (List.mem_of_mem_take hp)) (h.ok _ (List.mem_of_getElem? h0)).1)
    generalize p0 :: r = A at *
    obtain ⟨x0, n0'⟩ := p0
    obtain ⟨b0, off0, rfl, hbl0, d0, d1⟩ := HI.out.at_ 0 _ h0
    have hk0 := HI.out.ok _ (List.mem_of_getElem? h0)
    obtain ⟨⟨z1, z2⟩, z3, z4⟩ := hk0
    simp only [Nat.zero_mul, Nat.mul_zero, Nat.add_zero] at d0 d1 z1 z2 z3 z4 HX HY HLB HHB
    have nz : ((A.length : Int) == 0) = false := by rw [beq_eq_false_iff_ne]; omega
    clear h he e h1 h2 h0
    go_enter Tryd.func36, Tryd.ntmps36
    go_wp2_with fail
    go_loopw [5, 6, 22] (fun l g j wr => ∃ k : Nat, k ≤ A.length ∧ j = .int .i64 k ∧ l = .int .i64 (loF x0 (A.take k)) ∧ g = .int .i64 (hiF x0 (A.take k)) ∧ Below w.heap.size w wr) (fun _ _ j _ => A.length - (intOf j).toNat)
    case atStart => exact ⟨0, Nat.zero_le _, rfl, rfl, rfl, Below.refl _ _⟩
    case round =>
      obtain ⟨k, hk, rfl, rfl, rfl, hb2⟩ := hrel
      have hlb := HLB.out k
      have hhb := HHB.out k
      obtain ⟨LO, hLO⟩ : ∃ LO, loF x0 (A.take k) = LO := ⟨_, rfl⟩
      obtain ⟨HI2, hHI2⟩ : ∃ HI2, hiF x0 (A.take k) = HI2 := ⟨_, rfl⟩
      rw [hLO] at hlb
      rw [hHI2] at hhb
      rw [hLO, hHI2]
      obtain ⟨y0, y1⟩ := hlb
      obtain ⟨y2, y3⟩ := hhb
      have HLO := Lib.hid hLO
      have HHI := Lib.hid hHI2
      clear hLO hHI2
      by_cases hlt : k < A.length
      · have kk : (k : Int) < A.length := by omega
        have hxk : A[k]? = some A[k] := List.getElem?_eq_getElem hlt
        generalize hit : A[k] = p at *
        obtain ⟨px, pc⟩ := p
        obtain ⟨b, off, e2, hbl, c0, c1⟩ := (HI.out.call hb2).at_ k _ hxk
        obtain ⟨rfl, rfl⟩ : b0 = b ∧ off0 = off := by simpa using e2
        have HS1 : Hid (loF x0 (A.take (k + 1)) = min LO px) := Lib.hid (by rw [take_snocP hxk, lof_snoc, HLO.out])
        have HS2 : Hid (hiF x0 (A.take (k + 1)) = max HI2 px) := Lib.hid (by rw [take_snocP hxk, hif_snoc, HHI.out])
        have hok := HI.out.ok _ (List.mem_of_getElem? hxk)
        obtain ⟨⟨o1, o2⟩, o3, o4⟩ := hok
        have hbs := hb2.size
        simp only at c0 c1 o1 o2 o3 o4 HS1 HS2
        clear hxk hit e2
        go_wp2_with fail
        all_goals
          go_roundw
          case rel => exact ⟨k + 1, by omega, by go_num, by rw [HS1.out], by rw [HS2.out], hb2.alloc hbs _⟩
          case measure => simp [intOf]; omega
      · obtain rfl : k = A.length := by omega
        rw [List.take_length] at HLO HHI
        have kk : ¬ (A.length : Int) < A.length := by omega
        have E : Hid (LO = x ∧ HI2 = y) := Lib.hid ⟨by rw [← HLO.out]; exact HX.out, by rw [← HHI.out]; exact HY.out⟩
        go_wp2_with fail
        go_ret3
        exact ⟨ret_ends E.out.1 E.out.2, hb2⟩

end Go.Proofs.YtojincgbnjkegaaDoor
/-
  Walks: the reference of layer 15: Quantile, Like, Rank.
-/
namespace Go.Proofs.YtojincgbnjkegaaDoor
set_option linter.unusedVariables false
set_option linter.unusedSimpArgs false
open Go.RowKit

theorem ret_words {a b x y : Int} (h : a = x) (h' : b = y) : Ending.returned (.tuple #[.int .u64 a, .int .u64 b]) = .returned (.tuple #[.int .u64 x, .int .u64 y]) := by rw [h, h']

set_option maxRecDepth 100000 in
set_option maxHeartbeats 1000000 in
theorem rquan15_any (w : World) (M : Nat) (P : Pt) (s : Bool) (m : Int) (A : List PairV) (pa pb r c : Int) (wa : Word pa) (wb : Word pb) (h : RefN w M P s m A) (hP : P.ok) (hf : FineV A) (hl : A.length ≤ 300) (he : quanH P A pa pb = (r, c)) :
    Calls Tryd.prog 12 #[.pointer (some ⟨M, 0, none⟩), .agg #[.int .u64 pa, .int .u64 pb]] w fun e w' => e = .returned (.tuple #[.int .i64 r, .int .i64 c]) ∧ Below w.heap.size w w' := by
  have HR := Lib.hid h
  obtain ⟨lo, re, dg, av, cap, hp, hv, hc⟩ := h.cells
  have HV := Lib.hid hv
  have HC := Lib.hid hc
  have h0 := (fine_sum hf).1
  have h1 := fine_fit hf (by omega)
  have hpl := fun e => exact_place hf (show A.length ≤ 1000 by omega) wa wb e
  obtain ⟨T, hT⟩ : ∃ T, sumP A = T := ⟨_, rfl⟩
  have HTO := Lib.hid (fun W hW => rtotal13_any W M P s m A T hW (by omega) hT (by omega))
  have HPL := Lib.hid (fun W => rplace_any pa pb T wa wb (by unfold Word; omega) W)
  have hwv := pl_word (n := T) wa wb (by unfold Word; omega)
  unfold quanH at he
  rw [hT] at he h0 h1 hpl
  generalize plV pa pb T = t at *
  have hcn : 0 ≤ plE pa pb T := by unfold plE; split; split <;> omega; omega
  generalize plE pa pb T = c' at *
  have HHE := Lib.hid he
  have HS0 : Hid ((w.alloc (.cells #[.int .u64 pa, .int .u64 pb] 25)).drew.cell? ⟨w.heap.size, 0, none⟩ = some (.int .u64 pa) ∧ (w.alloc (.cells #[.int .u64 pa, .int .u64 pb] 25)).drew.cell? ⟨w.heap.size, 1, none⟩ = some (.int .u64 pb) ∧ Below w.heap.size w (w.alloc (.cells #[.int .u64 pa, .int .u64 pb] 25)).drew) := Lib.hid ⟨by go_simp, by go_simp, ((Below.refl _ _).alloc (Nat.le_refl _) _).drew⟩
  have HST := Lib.hid (fun (W W' : World) (h : W.cell? ⟨w.heap.size, 0, none⟩ = some (.int .u64 pa) ∧ W.cell? ⟨w.heap.size, 1, none⟩ = some (.int .u64 pb) ∧ Below w.heap.size w W) (hb : Below W.heap.size W W') => (⟨cell_later hb h.1, cell_later hb h.2.1, h.2.2.trans (hb.mono h.2.2.size)⟩ : W'.cell? ⟨w.heap.size, 0, none⟩ = some (.int .u64 pa) ∧ W'.cell? ⟨w.heap.size, 1, none⟩ = some (.int .u64 pb) ∧ Below w.heap.size w W'))
  clear h hp hv hc he
  by_cases z : c' = 0
  · subst z
    have he := HHE.out
    rw [if_pos rfl] at he
    obtain ⟨x, hx⟩ := hpl rfl
    rw [hx] at he
    have he : (clampV (loV A) (hiV A) (standV P x), 0) = (r, c) := he
    obtain ⟨h2, rfl⟩ : clampV (loV A) (hiV A) (standV P x) = r ∧ 0 = c := by simpa using he
    have hxi : I64 x := by
      obtain ⟨v, hv, e, _⟩ := exact_of hx
      exact e ▸ (hf v hv).1
    obtain ⟨y, hy⟩ : ∃ y, standV P x = y := ⟨_, rfl⟩
    rw [hy] at h2
    have HX := Lib.hid (fun W hW => rexact_any W av cap A t x true hW hwv (by omega) (by omega) (by rw [hx]; rfl) (by rw [hx]; rfl))
    have HSD := Lib.hid (fun W hW => rstands_any W M P s m A x y hW hP hxi hy)
    obtain ⟨ea, eb, ec, hee⟩ : ∃ ea eb ec, endA A = (ea, eb, ec) := ⟨_, _, _, rfl⟩
    have HEN := Lib.hid (fun W hW => rends_any W av cap A ea eb ec hW (by omega) hee)
    have hel : ea = loV A ∧ eb = hiV A := by
      by_cases hA : A = []
      · subst hA
        have h3 : (0, 0, false) = (ea, eb, ec) := hee
        obtain ⟨rfl, rfl, _⟩ : 0 = ea ∧ 0 = eb ∧ false = ec := by simpa using h3
        exact ⟨rfl, rfl⟩
      · unfold endA at hee
        rw [if_neg hA] at hee
        obtain ⟨rfl, rfl, _⟩ : loV A = ea ∧ hiV A = eb ∧ true = ec := by simpa using hee
        exact ⟨rfl, rfl⟩
    have HE2 : Hid (min (max y ea) eb = r) := Lib.hid (by rw [hel.1, hel.2]; exact h2)
    obtain ⟨lnn, hln⟩ : ∃ lnn : Nat, A.length = lnn := ⟨_, rfl⟩
    rw [hln] at HEN HX
    have hc5 := HC.out.c5
    rw [hln] at hc5
    have HC5 := Lib.hid hc5
    clear he hx hpl HHE hee hel h2 hc5 hy hxi
    go_enter Tryd.func12, Tryd.ntmps12
    go_wp2_with fail
    go_region_held3 (fun w' => w'.cell? ⟨w.heap.size, 0, none⟩ = some (.int .u64 pa) ∧ w'.cell? ⟨w.heap.size, 1, none⟩ = some (.int .u64 pb) ∧ Below w.heap.size w w')
      (first | exact HS0.out | exact HST.out _ _ (by assumption) hbA | assumption)
      ((first
        | (go_at_call 18; refine (HTO.out _ (HR.out.call (And.right (And.right (by assumption))))).mono ?_; rintro e wA ⟨rfl, hbA⟩)
        | (go_at_call 17; refine (HPL.out _).mono ?_; rintro e wA ⟨rfl, hbA⟩)))
    all_goals
      rename_i hHeld
      obtain ⟨_, _, b3⟩ := hHeld
      have hc5 := cell_later b3 HC5.out
      go_wp2_with fail
      refine (HX.out _ (HV.out.call b3)).mono ?_
      rintro e w4 ⟨rfl, b4⟩
      have b4 := b3.trans (b4.mono b3.size)
      have hc5 := cell_later b4 HC5.out
      go_wp2_with fail
      refine (HEN.out _ (HV.out.call b4)).mono ?_
      rintro e w5 ⟨rfl, b5⟩
      have b5 := b4.trans (b5.mono b4.size)
      go_wp2_with fail
      refine (HSD.out _ (HR.out.call b5)).mono ?_
      rintro e w6 ⟨rfl, b6⟩
      have b6 := b5.trans (b6.mono b5.size)
      go_wp2_with fail
      go_ret2
      exact ⟨ret_err HE2.out rfl, b6⟩
  · have he := HHE.out
    rw [if_neg z] at he
    obtain ⟨rfl, rfl⟩ : 0 = r ∧ c' = c := by simpa using he
    have zp : 0 < c' := by omega
    clear he hpl HHE
    go_enter Tryd.func12, Tryd.ntmps12
    go_wp2_with fail
    go_region_held3 (fun w' => w'.cell? ⟨w.heap.size, 0, none⟩ = some (.int .u64 pa) ∧ w'.cell? ⟨w.heap.size, 1, none⟩ = some (.int .u64 pb) ∧ Below w.heap.size w w')
      (first | exact HS0.out | exact HST.out _ _ (by assumption) hbA | assumption)
      ((first
        | (go_at_call 18; refine (HTO.out _ (HR.out.call (And.right (And.right (by assumption))))).mono ?_; rintro e wA ⟨rfl, hbA⟩)
        | (go_at_call 17; refine (HPL.out _).mono ?_; rintro e wA ⟨rfl, hbA⟩)))
    all_goals
      rename_i hHeld
      obtain ⟨_, _, b3⟩ := hHeld
      go_wp2_with fail
      go_ret2
      exact ⟨rfl, b3⟩

set_option maxRecDepth 100000 in
set_option maxHeartbeats 1000000 in
theorem rlike15_any (d : Int) (L : Nat) (T x : Int) (hs : SpanP d L T) (hx : I64 x) (w : World) :
    Calls Tryd.prog 23 #[.int .i64 d, .int .i64 x] w fun e w' => e = .returned (.tuple #[.int .i64 (likeL L x), .int .i64 (likeH L x)]) ∧ w = w' := by
  have hL := (spanp_log hs).2
  obtain ⟨x0, x1⟩ := id hx
  have HSZ := Lib.hid (fun W => size_any x hx W)
  by_cases h0 : x = 0
  · subst h0
    have e1 : likeL L 0 = 0 := by unfold likeL; rw [if_pos rfl]
    have e2 : likeH L 0 = 0 := by unfold likeH; rw [if_pos rfl]
    rw [e1, e2]
    go_enter Tryd.func23, Tryd.ntmps23
    go_wp2_with fail
    go_ret2
    exact ⟨rfl, rfl⟩
  obtain ⟨m1, m2⟩ := mag_in hx h0
  obtain ⟨c1, c2, c3, c4⟩ := span_in L m1 m2 hL
  have HRG := Lib.hid (fun W => rrange12_any d L T (mag x) hs m1 m2 W)
  have hb0 : (x == 0) = false := by simp [h0]
  by_cases hn : x < 0
  · have e1 : likeL L x = -(hiS L (mag x)) := by unfold likeL; rw [if_neg h0, if_pos hn]
    have e2 : likeH L x = -(loS L (mag x)) := by unfold likeH; rw [if_neg h0, if_pos hn]
    rw [e1, e2]
    have hm : mag x = -x := by unfold mag; rw [if_pos hn]
    generalize loS L (mag x) = lo at *
    generalize hiS L (mag x) = hi at *
    have hnp : ¬ 0 < x := by omega
    have w1 : IntKind.u64.wrap (lo - 1) = lo - 1 := by rw [IntKind.wrap_u64]; omega
    have w2 : IntKind.i64.wrap (lo - 1) = lo - 1 := by rw [IntKind.wrap_i64]; omega
    have w3 : IntKind.i64.wrap (-(lo - 1)) = -(lo - 1) := by rw [IntKind.wrap_i64]; omega
    have w4 : IntKind.i64.wrap (-(lo - 1) - 1) = -(lo - 1) - 1 := by rw [IntKind.wrap_i64]; omega
    by_cases ht : hi = 9223372036854775808
    · subst ht
      have E : Hid (-(lo - 1) - 1 = -lo) := Lib.hid (by omega)
      clear c1 c2 c3 c4 hm e1 e2
      go_enter Tryd.func23, Tryd.ntmps23
      go_wp2_with fail
      refine (HSZ.out _).mono ?_
      rintro e w1' ⟨rfl, rfl⟩
      go_wp2_with fail
      refine (HRG.out _).mono ?_
      rintro e w2' ⟨rfl, rfl⟩
      go_wp2_with fail
      go_ret2
      exact ⟨ret_err rfl E.out, rfl⟩
    · have w5 : IntKind.i64.wrap hi = hi := by rw [IntKind.wrap_i64]; omega
      have w6 : IntKind.i64.wrap lo = lo := by rw [IntKind.wrap_i64]; omega
      have w7 : IntKind.i64.wrap (-hi) = -hi := by rw [IntKind.wrap_i64]; omega
      have w8 : IntKind.i64.wrap (-lo) = -lo := by rw [IntKind.wrap_i64]; omega
      have hbt : (hi == 9223372036854775808) = false := by simp [ht]
      clear c1 c2 c3 c4 hm e1 e2
      go_enter Tryd.func23, Tryd.ntmps23
      go_wp2_with fail
      refine (HSZ.out _).mono ?_
      rintro e w1' ⟨rfl, rfl⟩
      go_wp2_with fail
      refine (HRG.out _).mono ?_
      rintro e w2' ⟨rfl, rfl⟩
      go_wp2_with fail
      go_ret2
      exact ⟨rfl, rfl⟩
  · have e1 : likeL L x = loS L (mag x) := by unfold likeL; rw [if_neg h0, if_neg hn]
    have e2 : likeH L x = min (hiS L (mag x)) 9223372036854775807 := by unfold likeH; rw [if_neg h0, if_neg hn]
    rw [e1, e2]
    have hm : mag x = x := by unfold mag; rw [if_neg hn]
    generalize loS L (mag x) = lo at *
    generalize hiS L (mag x) = hi at *
    have hp : 0 < x := by omega
    have w1 : IntKind.i64.wrap lo = lo := by rw [IntKind.wrap_i64]; omega
    have w2 : IntKind.i64.wrap (min hi 9223372036854775807) = min hi 9223372036854775807 := by rw [IntKind.wrap_i64]; omega
    clear c1 c2 c3 c4 hm e1 e2
    go_enter Tryd.func23, Tryd.ntmps23
    go_wp2_with fail
    refine (HSZ.out _).mono ?_
    rintro e w1' ⟨rfl, rfl⟩
    go_wp2_with fail
    refine (HRG.out _).mono ?_
    rintro e w2' ⟨rfl, rfl⟩
    go_wp2_with fail
    go_ret2
    exact ⟨rfl, rfl⟩

set_option maxRecDepth 100000 in
set_option maxHeartbeats 1000000 in
theorem rrank15_any (w : World) (M : Nat) (d : Int) (L : Nat) (T : Int) (s : Bool) (m : Int) (A : List PairV) (x n1 n2 : Int) (hs : SpanP d L T) (hx : I64 x) (h : RefN w M (.spans d L T) s m A) (hl : A.length ≤ 1000) (hb : sumP A < 18446744073709551616) (hn1 : (if x = 0 then upV A 0 else cntV (fun y => decide (y < likeL L x)) A) = n1) (hn2 : upV A (likeH L x) = n2) :
    Calls Tryd.prog 14 #[.pointer (some ⟨M, 0, none⟩), .int .i64 x] w fun e w' => e = .returned (.tuple #[.int .u64 n1, .int .u64 n2]) ∧ Below w.heap.size w w' := by
  obtain ⟨lo, re, dg, a, cap, hp, hv, hc⟩ := h.cells
  have hp : dg = d ∧ _ := hp
  obtain ⟨rfl, _⟩ := hp
  have c2 := hc.c2
  have hc5 := hc.c5
  obtain ⟨_, _, i1, i2⟩ := like_self hs hx
  have HLK := Lib.hid (fun W => rlike15_any dg L T x hs hx W)
  obtain ⟨lw, hlw⟩ : ∃ lw, likeL L x = lw := ⟨_, rfl⟩
  obtain ⟨hw, hhw⟩ : ∃ hw, likeH L x = hw := ⟨_, rfl⟩
  rw [hlw, hhw] at HLK
  rw [hlw] at hn1 i1
  rw [hhw] at hn2 i2
  have HI := Lib.hid hv
  have HU := Lib.hid (fun W hW => rup_any W a cap A hw n2 hW i2 (by omega) hb hn2)
  have HU0 := Lib.hid (fun W hW => rup_any W a cap A 0 (upV A 0) hW (by unfold I64; omega) (by omega) hb rfl)
  have HP := Lib.hid (fun k => cnt_part (f := fun y => decide (y < lw)) (A := A) k (ok_pos hv.ok))
  have HN1 := Lib.hid hn1
  obtain ⟨ln, hln⟩ : ∃ ln : Nat, A.length = ln := ⟨_, rfl⟩
  rw [hln] at HU HU0 hc5 hl
  have HLN := Lib.hid hln
  have HC5 := Lib.hid hc5
  have HBB := Lib.hid hb
  obtain ⟨x0, x1⟩ := id hx
  obtain ⟨l0, l1⟩ := i1
  obtain ⟨y0, y1⟩ := i2
  clear h hv hc hn1 hn2 hln hlw hhw hc5 hb hs
  have hc5 := HC5.out
  go_enter Tryd.func14, Tryd.ntmps14
  go_wp2_with fail
  refine (HLK.out _).mono ?_
  rintro e w1 ⟨rfl, rfl⟩
  go_wp2_with fail
  go_loopw [8, 25] (fun s j wr => ∃ (k : Nat) (mm : Int), k ≤ ln ∧ j = .int .i64 k ∧ s = .int .u64 mm ∧ mm = cntV (fun y => decide (y < lw)) (A.take k) ∧ Below w.heap.size w wr) (fun _ j _ => ln - (intOf j).toNat)
  case atStart => exact ⟨0, 0, Nat.zero_le _, rfl, rfl, rfl, Below.refl _ _⟩
  case round =>
    obtain ⟨k, mm, hk, rfl, rfl, hm, hb2⟩ := hrel
    have HM := Lib.hid hm
    by_cases hlt : k < ln
    · have kk : (k : Int) < ln := by omega
      have hxk : A[k]? = some (A[k]'(by rw [HLN.out]; exact hlt)) := List.getElem?_eq_getElem _
      generalize hit : A[k]'(by rw [HLN.out]; exact hlt) = p at *
      obtain ⟨px, pc⟩ := p
      obtain ⟨b, off, rfl, hbl, c0, c1⟩ := (HI.out.call hb2).at_ k _ hxk
      have HS := Lib.hid (cnt_take (f := fun y => decide (y < lw)) hxk)
      have hok := HI.out.ok _ (List.mem_of_getElem? hxk)
      have p1 := HP.out (k + 1)
      have p0 := HP.out k
      rw [HS.out] at p1
      rw [← hm] at p0 p1
      have hbs := hb2.size
      have hbb := HBB.out
      obtain ⟨⟨o1, o2⟩, o3, o4⟩ := hok
      simp only [decide_eq_true_eq] at c0 c1 o1 o2 o3 o4 p1 HS
      clear hxk hit hm
      by_cases he : px < lw
      · rw [if_pos he] at p1 HS
        obtain ⟨p2, p3⟩ := p1
        obtain ⟨p4, _⟩ := p0
        go_wp2_with fail
        go_roundw
        case rel => exact ⟨k + 1, mm + pc, by omega, by go_num, rfl, by rw [HS.out, HM.out], hb2.alloc hbs _⟩
        case measure => simp [intOf]; omega
      · rw [if_neg he] at p1 HS
        clear p0 p1
        go_wp2_with fail
        go_roundw
        case rel => exact ⟨k + 1, mm, by omega, by go_num, rfl, by rw [HS.out, HM.out, Int.add_zero], hb2.alloc hbs _⟩
        case measure => simp [intOf]; omega
    · obtain rfl : k = ln := by omega
      rw [List.take_of_length_le (by rw [HLN.out]; exact Nat.le_refl k)] at HM
      have kk : ¬ (k : Int) < k := by omega
      have hc5 := cell_later hb2 HC5.out
      clear hm
      by_cases hz : x = 0
      · subst hz
        have E : Hid (upV A 0 = n1) := Lib.hid (by rw [← HN1.out, if_pos rfl])
        go_wp2_with fail
        refine (HU0.out _ (HI.out.call hb2)).mono ?_
        rintro e w3 ⟨rfl, b3⟩
        have b3 := hb2.trans (b3.mono hb2.size)
        have hc5 := cell_later b3 HC5.out
        go_wp2_with fail
        refine (HU.out _ (HI.out.call b3)).mono ?_
        rintro e w4 ⟨rfl, b4⟩
        have b4 := b3.trans (b4.mono b3.size)
        go_wp2_with fail
        go_ret2
        exact ⟨ret_words E.out rfl, b4⟩
      · have E : Hid (mm = n1) := Lib.hid (by rw [HM.out, ← HN1.out, if_neg hz])
        have hzb : (x == 0) = false := by simp [hz]
        go_wp2_with fail
        refine (HU.out _ (HI.out.call hb2)).mono ?_
        rintro e w4 ⟨rfl, b4⟩
        have b4 := hb2.trans (b4.mono hb2.size)
        go_wp2_with fail
        go_ret2
        exact ⟨ret_words E.out rfl, b4⟩

set_option maxRecDepth 100000 in
theorem heap_new15 (w : World) (o : Obj) : (w.alloc o).heap[w.heap.size]? = some o := by
  unfold World.alloc
  exact Array.getElem?_push_size
/-- The reference's bins of spans, as the laws of layer 15 make them: a new block over the values. -/
theorem refn_spans (w : World) (d : Int) (L : Nat) (T m : Int) {a : Option Addr} {cap : Nat} {A : List PairV} (hv : Pairs w a A) :
    RefN (w.alloc (.cells #[.slice none 0 0, .slice none 0 0, .int .i64 d, .int .i64 0, .int .i64 m, .slice a A.length cap] 59)) w.heap.size (.spans d L T) false m A := by
  have hb : Below w.heap.size w (w.alloc (.cells #[.slice none 0 0, .slice none 0 0, .int .i64 d, .int .i64 0, .int .i64 m, .slice a A.length cap] 59)) := (Below.refl _ _).alloc (Nat.le_refl _) _
  exact ⟨.slice none 0 0, .slice none 0 0, d, a, cap, ⟨rfl, rfl, rfl⟩, hv.call hb, heap_new15 _ _⟩

end Go.Proofs.YtojincgbnjkegaaDoor

/-
  Walks: a sketch of values; the laws' alive, build and same of layer 15.
-/
namespace Go.Proofs.YtojincgbnjkegaaDoor
set_option linter.unusedVariables false
set_option linter.unusedSimpArgs false
open Go.RowKit

theorem hdv_nil (P : Pt) : hdV P [] = ⟨[], [], 0, 0, 0⟩ := rfl
theorem hdv_len {P : Pt} (hP : P.ok) {A : List PairV} (h : FineV A) (hl : A.length ≤ 1000) : (hdV P A).k1.length ≤ A.length ∧ (hdV P A).k2.length ≤ A.length := ⟨(row_sum50 hP true h hl).len, (row_sum50 hP false h hl).len⟩
theorem fine_bd {A : List PairV} (h : FineV A) (hl : A.length ≤ 1000) : 0 ≤ sumP A ∧ sumP A ≤ 1125899906842624000 := by
  have h1 := fine_sum h
  have h2 : (A.length : Int) * 1125899906842624 ≤ 1000 * 1125899906842624 := Int.mul_le_mul_of_nonneg_right (by omega) (by omega)
  omega

theorem hd_putv {St : World → Nat → (Nat → Prop) → Int → List PairV → Prop} (D : StripDoes St) {w : World} {B : Nat} {S : Nat → Prop} {d : Int} {L : Nat} {T lim : Int} {A : List PairV} (hs : SpanP d L T) (x : HdX St w B S d L lim (hdV (.spans d L T) A)) (hf : FineV A) (hl : A.length ≤ 600) (y c : Int) (hy : I64 y) (c0 : 0 < c) (c1 : c ≤ 1125899906842624) (hb : takB lim y = true) :
    Calls Tryd.prog 26 #[.pointer (some ⟨B, 0, none⟩), .int .i64 y, .int .u64 c] w fun e w' => e = .returned (.int .i64 0) ∧ HdTo St w B S d L lim (hdV (.spans d L T) (A ++ [(y, c)])) w' := by
  have hP : (Pt.spans d L T).ok := hs
  obtain ⟨l1, l2⟩ := hdv_len hP hf (by omega)
  have hall := hdv_all hP hf (by omega)
  have hbd := fine_bd hf (by omega)
  rw [← hdv_put hP hf (by omega)]
  exact hd_put_ok D hs x (by omega) (by omega) y c hy c0 hb (by rw [hall]; omega)

theorem span_one {L : Nat} {T : Int} (h : SpanP 1 L T) : L = 4 ∧ T = 10 := by unfold SpanP at h; omega
theorem alive_q15 : quanH (.spans 1 4 10) [(7, 3)] 1 2 = (7, 0) := by decide +kernel
theorem fine_seven : FineV [(7, 3)] := fun v hv => by
  have : v = (7, 3) := by simpa using hv
  subst this; exact ⟨⟨by decide, by decide⟩, by decide, by decide⟩
theorem takb_zero (x : Int) : takB 0 x = true := by unfold takB; simp

set_option maxRecDepth 100000 in
set_option maxHeartbeats 1000000 in
theorem alive15_any {St : World → Nat → (Nat → Prop) → Int → List PairV → Prop} (D : StripDoes St) (w : World) (ht : Tens w) : Calls Tryd.prog 9 #[] w fun e w' => e = .returned (.bool true) ∧ Below w.heap.size w w' := by
  have HD := Lib.hid D
  have HNW := Lib.hid (hd_new D w 1 0 ht ⟨by decide, by decide⟩ ⟨by decide, by decide⟩)
  clear D ht
  go_enter Tryd.func9, Tryd.ntmps9
  go_wp2_with fail
  refine HNW.out.mono ?_
  rintro e w2 (⟨_, _, _, L, T, B, S, hs, rfl, hx, hS, b2⟩ | ⟨hno, rfl, b2⟩)
  case inr => exact absurd ⟨by decide, by decide, by decide⟩ hno
  obtain ⟨rfl, rfl⟩ := span_one hs
  have HPU := Lib.hid (hd_putv HD.out (A := []) hs hx (fun v hv => by cases hv) (by simp) 7 3 ⟨by decide, by decide⟩ (by decide) (by decide) (takb_zero 7))
  have HSP := Lib.hid hs
  have HS := Lib.hid hS
  have hz2 := b2.size
  clear hx hS hs HNW
  go_wp2_with fail
  refine HPU.out.mono ?_
  rintro e w3 ⟨rfl, S', hx, hk, hS'⟩
  have b3 : Below w.heap.size w w3 := hk.below b2 hz2 HS.out
  have hx : HdX St w3 B S' 1 4 0 (hdV (.spans 1 4 10) [(7, 3)]) := hx
  have hP : (Pt.spans 1 4 10).ok := HSP.out
  obtain ⟨l1, l2⟩ := hdv_len hP fine_seven (by simp)
  have hq : quanD (.spans 1 4 10) (hdV (.spans 1 4 10) [(7, 3)]) 1 2 = (7, 0) := by rw [quan_hd HSP.out fine_seven (by simp) ⟨by decide, by decide⟩ ⟨by decide, by decide⟩]; exact alive_q15
  have HQ := Lib.hid (hd_quan HD.out HSP.out hx (by simp at l1; omega) (by simp at l2; omega) 1 2 7 0 ⟨by decide, by decide⟩ ⟨by decide, by decide⟩ hq)
  have HT := Lib.hid (fun W (hb : Below w3.heap.size w3 W) => hd_total HD.out (hx.call HD.out hb) (by simp at l1; omega) (by simp at l2; omega) 3 (by rw [hdv_all hP fine_seven (by simp)]; decide))
  clear hx hk hS' hP l1 l2 hq HPU
  go_wp2_with fail
  refine HQ.out.mono ?_
  rintro e w4 ⟨rfl, b4⟩
  go_wp2_with fail
  refine (HT.out _ b4).mono ?_
  rintro e w5 ⟨rfl, b5⟩
  have b5 := b3.trans ((b4.trans (b5.mono b4.size)).mono b3.size)
  go_wp2_with fail
  go_ret
  exact ⟨rfl, b5⟩

/-- The reference's bins as the laws of layer 15 lay them. -/
def BinBlk (w : World) (M : Nat) (d : Int) (a : Option Addr) (n cap : Nat) : Prop :=
  w.heap[M]? = some (.cells #[.slice none 0 0, .slice none 0 0, .int .i64 d, .int .i64 0, .int .i64 4096, .slice a n cap] 59 (0, 0))
theorem refn_blk {w : World} {M : Nat} {d : Int} (L : Nat) (T : Int) {a : Option Addr} {cap : Nat} {A : List PairV} (h : BinBlk w M d a A.length cap) (hv : Pairs w a A) : RefN w M (.spans d L T) false 4096 A :=
  ⟨.slice none 0 0, .slice none 0 0, d, a, cap, ⟨rfl, rfl, rfl⟩, hv, h⟩

/-- What build tells. -/
def Build15 (St : World → Nat → (Nat → Prop) → Int → List PairV → Prop) (w : World) (d : Int) (A : List PairV) (a : Option Addr) (cap : Nat) (e : Ending) (w' : World) : Prop :=
  (∃ B S L T M, e = .returned (.tuple #[.pointer (some ⟨B, 0, none⟩), .pointer (some ⟨M, 0, none⟩), .bool true]) ∧ SpanP d L T ∧ FineV A ∧ A.length ≤ 60 ∧ HdX St w' B S d L 0 (hdV (.spans d L T) A) ∧ BinBlk w' M d a A.length cap ∧ (∀ k, S k → w.heap.size ≤ k) ∧ w.heap.size ≤ M ∧ ¬ S M ∧ Below w.heap.size w w') ∨
  (e = .returned (.tuple #[.pointer none, .pointer none, .bool false]) ∧ Below w.heap.size w w')

set_option maxRecDepth 100000 in
set_option maxHeartbeats 4000000 in
theorem build15_any {St : World → Nat → (Nat → Prop) → Int → List PairV → Prop} (D : StripDoes St) (w : World) (d : Int) (A : List PairV) (a : Option Addr) (cap : Nat) (hd : I64 d) (ht : Tens w) (hA : Pairs w a A) (hl : A.length ≤ 140737488351232) :
    Calls Tryd.prog 10 #[.int .i64 d, .slice a A.length cap] w (Build15 St w d A a cap) := by
  have HD := Lib.hid D
  have HA := Lib.hid hA
  have HNW := Lib.hid (hd_new D w d 0 ht hd ⟨by decide, by decide⟩)
  obtain ⟨d0, d1⟩ := id hd
  clear hA D ht
  by_cases q1 : 60 < A.length
  · have kk : (60 : Int) < A.length := by omega
    go_enter Tryd.func10, Tryd.ntmps10
    go_wp2_with fail
    go_ret3
    exact Or.inr ⟨rfl, Below.refl _ _⟩
  have kk : ¬ (60 : Int) < A.length := by omega
  by_cases q2 : d < 1
  · go_enter Tryd.func10, Tryd.ntmps10
    go_wp2_with fail
    go_ret3
    exact Or.inr ⟨rfl, Below.refl _ _⟩
  by_cases q3 : 4 < d
  · go_enter Tryd.func10, Tryd.ntmps10
    go_wp2_with fail
    go_ret3
    exact Or.inr ⟨rfl, Below.refl _ _⟩
  go_enter Tryd.func10, Tryd.ntmps10
  go_wp2_with fail
  refine HNW.out.mono ?_
  rintro e w2 (⟨_, _, _, L, T, B, S, hs, rfl, hx, hS, b2⟩ | ⟨hno, rfl, b2⟩)
  case inr => exact absurd ⟨by omega, by omega, by decide⟩ hno
  have HX := Lib.hid hx
  have HS := Lib.hid hS
  have HSP := Lib.hid hs
  have hz2 := b2.size
  clear hx hS hs HNW
  go_wp2_with fail
  go_loopw [30] (fun j wr => ∃ (k : Nat) (Sk : Nat → Prop), k ≤ A.length ∧ j = .int .i64 k ∧ FineV (A.take k) ∧ HdX St wr B Sk d L 0 (hdV (.spans d L T) (A.take k)) ∧ (∀ i, Sk i → w.heap.size ≤ i) ∧ Below w.heap.size w wr) (fun j _ => A.length - (intOf j).toNat)
  case atStart => exact ⟨0, S, Nat.zero_le _, rfl, fun v hv => (by cases hv), HX.out, HS.out, b2⟩
  case round =>
    clear b2 hz2
    obtain ⟨k, Sk, hk, rfl, hf, hx, hsk, b3⟩ := hrel
    have HXK := Lib.hid hx
    have HSK := Lib.hid hsk
    have HFK := Lib.hid hf
    have hz3 := b3.size
    clear hx hsk hf
    by_cases hlt : k < A.length
    · have kl : (k : Int) < A.length := by omega
      have hxk : A[k]? = some A[k] := List.getElem?_eq_getElem hlt
      generalize hit : A[k] = p at *
      obtain ⟨px, pc⟩ := p
      obtain ⟨bb, off, rfl, hbl, c0, c1⟩ := (HA.out.call b3).at_ k _ hxk
      have hok := HA.out.ok _ (List.mem_of_getElem? hxk)
      have HOK := Lib.hid hok.1
      have HKT := Lib.hid (take_snocP hxk)
      obtain ⟨⟨o1, o2⟩, o3, o4⟩ := hok
      simp only at c0 c1 o1 o2 o3 o4 HOK
      have HB4 := Lib.hid (b3.alloc hz3 (.cells #[.int .i64 px, .int .u64 pc] 67))
      have hbn : Below wr.heap.size wr (wr.alloc (.cells #[.int .i64 px, .int .u64 pc] 67)) := (Below.refl _ _).alloc (Nat.le_refl _) _
      have HX4 := Lib.hid (HXK.out.call HD.out hbn)
      clear hxk hit hbn
      by_cases z0 : pc = 0
      · subst z0
        go_wp2_with fail
        go_ret3
        exact Or.inr ⟨rfl, HB4.out⟩
      have z1 : (pc == 0) = false := by simp [z0]
      by_cases z2 : 1125899906842624 < pc
      · go_wp2_with fail
        go_ret3
        exact Or.inr ⟨rfl, HB4.out⟩
      have htl := List.length_take_le k A
      have HPU := Lib.hid (hd_putv HD.out HSP.out HX4.out HFK.out (by omega) px pc HOK.out (by omega) (by omega) (takb_zero px))
      have HF5 : Hid (FineV (A.take (k + 1))) := Lib.hid (by
        rw [HKT.out]
        exact fine_app HFK.out fun v hv => by
          have : v = (px, pc) := by simpa using hv
          subst this; exact ⟨HOK.out, by show 0 < pc; omega, by show pc ≤ _; omega⟩)
      clear htl HXK HX4
      go_wp2_with fail
      refine HPU.out.mono ?_
      rintro e w6 ⟨rfl, S6, hx6, hk6, hS6⟩
      rw [← HKT.out] at hx6
      have HX6 := Lib.hid hx6
      have hz4 := HB4.out.size
      have b6 : Below w.heap.size w w6 := Keeps.below HB4.out hk6 hz4 HSK.out
      have hs6 : ∀ i, S6 i → w.heap.size ≤ i := fun i hi => by
        rcases hS6 i hi with h | h
        · exact HSK.out i h
        · omega
      have HS6 := Lib.hid hs6
      clear hx6 hs6 hS6 hk6 HPU
      go_wp2_with fail
      go_roundw
      case rel => exact ⟨k + 1, S6, by omega, by go_num, HF5.out, HX6.out, HS6.out, b6⟩
      case measure => simp [intOf]; omega
    · obtain rfl : k = A.length := by omega
      have kl : ¬ (A.length : Int) < A.length := by omega
      rw [List.take_length] at HXK HFK
      have hbn : Below wr.heap.size wr (wr.alloc (.cells #[.slice none 0 0, .slice none 0 0, .int .i64 d, .int .i64 0, .int .i64 4096, .slice a A.length cap] 59)) := (Below.refl _ _).alloc (Nat.le_refl _) _
      have HXN := Lib.hid (HXK.out.call HD.out hbn)
      have HNS : Hid (¬ Sk wr.heap.size) := Lib.hid fun h => by have := HXK.out.lt HD.out _ h; omega
      have HBN := Lib.hid (b3.alloc hz3 (.cells #[.slice none 0 0, .slice none 0 0, .int .i64 d, .int .i64 0, .int .i64 4096, .slice a A.length cap] 59))
      clear hbn HXK
      go_wp2_with fail
      go_ret3
      exact Or.inl ⟨B, Sk, L, T, wr.heap.size, rfl, HSP.out, HFK.out, by omega, HXN.out, heap_new _ _, HSK.out, hz3, HNS.out, HBN.out⟩

theorem ende15 {d : Int} {L : Nat} {T : Int} (hs : SpanP d L T) {A : List PairV} (h : FineV A) (hl : A.length ≤ 1000) : endsH (hdV (.spans d L T) A) = endA A := by
  unfold endsH endA
  rw [hdv_all (show (Pt.spans d L T).ok from hs) h hl]
  by_cases z : A = []
  · rw [if_pos z, if_pos ((sum_zero15 h).2 z)]
  · rw [if_neg z, if_neg (fun e => z ((sum_zero15 h).1 e))]; rfl

set_option maxRecDepth 100000 in
set_option maxHeartbeats 4000000 in
theorem same15_any {St : World → Nat → (Nat → Prop) → Int → List PairV → Prop} (D : StripDoes St) (w : World) (B M : Nat) (S : Nat → Prop) (d : Int) (L : Nat) (T lim : Int) (A : List PairV) (a0 : Option Addr) (cap0 : Nat) (hs : SpanP d L T) (x : HdX St w B S d L lim (hdV (.spans d L T) A)) (hbk : BinBlk w M d a0 A.length cap0) (hv0 : Pairs w a0 A) (hf : FineV A) (hl : A.length ≤ 150) :
    Calls Tryd.prog 15 #[.pointer (some ⟨B, 0, none⟩), .pointer (some ⟨M, 0, none⟩)] w fun e w' => e = .returned (.bool true) ∧ Below w.heap.size w w' := by
  have hP : (Pt.spans d L T).ok := hs
  have hR : RefN w M (.spans d L T) false 4096 A := refn_blk L T hbk hv0
  have HD := Lib.hid D
  have HX := Lib.hid x
  have HR := Lib.hid hR
  obtain ⟨_, _, _, av, cap, _, hvv, hcn⟩ := hR.cells
  have HV := Lib.hid hvv
  have S1 := row_sum50 hP true hf (by omega)
  have S2 := row_sum50 hP false hf (by omega)
  obtain ⟨q1, q2⟩ := hdv_len hP hf (by omega)
  have hall := hdv_all hP hf (by omega)
  have hbd := fine_bd hf (by omega)
  have f1 := S1.len
  have f2 := S2.len
  have HRW := Lib.hid (fun W (hb : Below w.heap.size w W) => hd_rows D (x.call D hb) (by omega) (by omega))
  obtain ⟨y, z, b, hab⟩ : ∃ y z b, endA A = (y, z, b) := ⟨_, _, _, rfl⟩
  have HEN := Lib.hid (fun W (hb : Below w.heap.size w W) => hd_ends D (x.call D hb) (by omega) (by omega) y z b ((ende15 hs hf (by omega)).trans hab))
  have HRE := Lib.hid (fun W (hb : Below w.heap.size w W) => rends_any W av cap A y z b (hvv.call hb) (by omega) hab)
  have HK1 := Lib.hid (fun W hW => rrow13_any W M (.spans d L T) false 4096 A true hW hP hf (by omega))
  have HK2 := Lib.hid (fun W hW => rrow13_any W M (.spans d L T) false 4096 A false hW hP hf (by omega))
  obtain ⟨tt, htt⟩ : ∃ tt, sumP A = tt := ⟨_, rfl⟩
  have HTO := Lib.hid (fun W (hb : Below w.heap.size w W) => hd_total D (x.call D hb) (by omega) (by omega) tt (hall.trans htt))
  have HMT := Lib.hid (fun W hW => rtotal13_any W M (.spans d L T) false 4096 A tt hW (by omega) htt (by omega))
  obtain ⟨ho, hw, Sp, C1, C2, S1', S2', hr, hS⟩ := id x
  have hzc : w.cell? ⟨B, 5, none⟩ = some (.int .u64 (zeroV A)) := hr.cells.c5
  have HZ := Lib.hid (fun W (hb : Below w.heap.size w W) => hd_zero (cell_later hb hzc))
  have hza := sides_all hP hf (by omega)
  have hz0 := zero_pos hf
  have HRW2 : Hid (∀ W, Below w.heap.size w W → Calls Tryd.prog 31 #[.pointer (some ⟨B, 0, none⟩)] W fun e w' => ∃ v1 v2, e = .returned (.tuple #[v1, v2]) ∧ OwnP w' W.heap.size v1 (rowV (.spans d L T) true A) ∧ OwnP w' W.heap.size v2 (rowV (.spans d L T) false A) ∧ Below W.heap.size W w') := Lib.hid HRW.out
  have hk1 := S1.ok
  have hk2 := S2.ok
  have p1 := sumP_pos (ok_pos hk1)
  have p2 := sumP_pos (ok_pos hk2)
  rw [htt] at hza hbd
  generalize rowV (.spans d L T) true A = K1 at *
  generalize rowV (.spans d L T) false A = K2 at *
  generalize zeroV A = zz at *
  obtain ⟨m1, hm1⟩ : ∃ m1, sumP K1 = m1 := ⟨_, rfl⟩
  obtain ⟨m2, hm2⟩ : ∃ m2, sumP K2 = m2 := ⟨_, rfl⟩
  have HT1 := Lib.hid (fun W x c (h : Pairs W x K1) => rtotal_any W x c K1 m1 h (by omega) hm1 (by omega))
  have HT2 := Lib.hid (fun W x c (h : Pairs W x K2) => rtotal_any W x c K2 m2 h (by omega) hm2 (by omega))
  have HS1 := Lib.hid (fun W x x' cx cx' (h : Pairs W x K1) (h' : Pairs W x' K1) => same_any W x x' cx cx' K1 K1 true (by simp) h h' (by omega) (by omega))
  have HS2 := Lib.hid (fun W x x' cx cx' (h : Pairs W x K2) (h' : Pairs W x' K2) => same_any W x x' cx cx' K2 K2 true (by simp) h h' (by omega) (by omega))
  rw [hm1] at hza p1
  rw [hm2] at hza p2
  have HKO1 := Lib.hid hk1
  have HKO2 := Lib.hid hk2
  have htte : (tt == tt) = true := by simp
  have hzze : (zz == zz) = true := by simp
  have hyy : (y == y) = true := by simp
  have hz2 : (z == z) = true := by simp
  have hbb : (b == b) = true := by simp
  have usb : IntKind.u64.wrap (m1 + m2) = m1 + m2 := by rw [IntKind.wrap_u64]; omega
  have uzz : tt - (m1 + m2) = zz := by omega
  have UZZ := Lib.hid uzz
  have hnn : 0 ≤ tt - (m1 + m2) := by omega
  obtain ⟨a1, ha1⟩ : ∃ a1 : Nat, K1.length = a1 := ⟨_, rfl⟩
  obtain ⟨a2, ha2⟩ : ∃ a2 : Nat, K2.length = a2 := ⟨_, rfl⟩
  obtain ⟨a3, ha3⟩ : ∃ a3 : Nat, A.length = a3 := ⟨_, rfl⟩
  rw [ha1] at HS1 HT1
  rw [ha2] at HS2 HT2
  rw [ha3] at HRE
  have hc5 := hcn.c5
  rw [ha3] at hc5
  have HC5 := Lib.hid hc5
  have HA1 := Lib.hid ha1
  have HA2 := Lib.hid ha2
  clear x hR hf D hP S1 S2 q1 q2 hall hk1 hk2 f1 f2 htt ha1 ha2 ha3 hvv hcn hab hc5 ho hw hr hS hzc hs HRW hm1 hm2 hbk hv0 uzz hza
  go_enter Tryd.func15, Tryd.ntmps15
  go_wp2_with fail
  refine (HRW2.out _ (Below.refl _ _)).mono ?_
  rintro e w2 ⟨v1, v2, rfl, ho1, ho2, b2⟩
  obtain ⟨x1, c1, rfl, hp1⟩ := ho1.pairs HKO1.out
  obtain ⟨x2, c2, rfl, hp2⟩ := ho2.pairs HKO2.out
  rw [HA1.out, HA2.out]
  have P1 := Lib.hid hp1
  have P2 := Lib.hid hp2
  clear hp1 hp2 ho1 ho2 HRW2
  go_wp2_with fail
  refine (HEN.out _ b2).mono ?_
  rintro e w6 ⟨rfl, b6'⟩
  have b6 := b2.trans (b6'.mono b2.size)
  have P1 := Lib.hid (P1.out.call b6')
  have P2 := Lib.hid (P2.out.call b6')
  have hc5 := cell_later b6 HC5.out
  clear b2 b6'
  go_wp2_with fail
  refine (HRE.out _ b6).mono ?_
  rintro e w7 ⟨rfl, b7'⟩
  have b7 := b6.trans (b7'.mono b6.size)
  have P1 := Lib.hid (P1.out.call b7')
  have P2 := Lib.hid (P2.out.call b7')
  clear b6 b7' hc5
  go_wp2_with fail
  refine (HK1.out _ (HR.out.call b7)).mono ?_
  rintro e w8 ⟨v3, rfl, ho3, b8'⟩
  obtain ⟨x3, c3, rfl, hp3⟩ := ho3.pairs HKO1.out
  rw [HA1.out]
  have P3 := Lib.hid hp3
  have P1 := Lib.hid (P1.out.call b8')
  have P2 := Lib.hid (P2.out.call b8')
  have b8 := b7.trans (b8'.mono b7.size)
  clear hp3 ho3 b7 b8'
  go_wp2_with fail
  refine (HT1.out _ _ _ P3.out).mono ?_
  rintro e w9 ⟨rfl, b9'⟩
  have P1 := Lib.hid (P1.out.call b9')
  have P2 := Lib.hid (P2.out.call b9')
  have b9 := b8.trans (b9'.mono b8.size)
  clear b8 b9' P3
  go_wp2_with fail
  refine (HK2.out _ (HR.out.call b9)).mono ?_
  rintro e w10 ⟨v4, rfl, ho4, b10'⟩
  obtain ⟨x4, c4, rfl, hp4⟩ := ho4.pairs HKO2.out
  rw [HA2.out]
  have P4 := Lib.hid hp4
  have P1 := Lib.hid (P1.out.call b10')
  have P2 := Lib.hid (P2.out.call b10')
  have b10 := b9.trans (b10'.mono b9.size)
  clear hp4 ho4 b9 b10'
  go_wp2_with fail
  refine (HT2.out _ _ _ P4.out).mono ?_
  rintro e w11 ⟨rfl, b11'⟩
  have P1 := Lib.hid (P1.out.call b11')
  have P2 := Lib.hid (P2.out.call b11')
  have b11 := b10.trans (b11'.mono b10.size)
  clear b10 b11' P4
  go_wp2_with fail
  refine (HK1.out _ (HR.out.call b11)).mono ?_
  rintro e w12 ⟨v5, rfl, ho5, b12'⟩
  obtain ⟨x5, c5, rfl, hp5⟩ := ho5.pairs HKO1.out
  rw [HA1.out]
  have P5 := Lib.hid hp5
  have P1 := Lib.hid (P1.out.call b12')
  have P2 := Lib.hid (P2.out.call b12')
  have b12 := b11.trans (b12'.mono b11.size)
  clear hp5 ho5 b11 b12'
  go_wp2_with fail
  refine (HS1.out _ _ _ _ _ P1.out P5.out).mono ?_
  rintro e w13 ⟨rfl, b13'⟩
  have P2 := Lib.hid (P2.out.call b13')
  have b13 := b12.trans (b13'.mono b12.size)
  clear b12 b13' P1 P5
  go_wp2_with fail
  refine (HK2.out _ (HR.out.call b13)).mono ?_
  rintro e w14 ⟨v6, rfl, ho6, b14'⟩
  obtain ⟨x6, c6, rfl, hp6⟩ := ho6.pairs HKO2.out
  rw [HA2.out]
  have P6 := Lib.hid hp6
  have P2 := Lib.hid (P2.out.call b14')
  have b14 := b13.trans (b14'.mono b13.size)
  clear hp6 ho6 b13 b14'
  go_wp2_with fail
  refine (HS2.out _ _ _ _ _ P2.out P6.out).mono ?_
  rintro e w15 ⟨rfl, b15'⟩
  have b15 := b14.trans (b15'.mono b14.size)
  clear b14 b15' P2 P6
  go_wp2_with fail
  refine (HTO.out _ b15).mono ?_
  rintro e w16 ⟨rfl, b16'⟩
  have b16 := b15.trans (b16'.mono b15.size)
  clear b15 b16'
  go_wp2_with fail
  refine (HMT.out _ (HR.out.call b16)).mono ?_
  rintro e w17 ⟨rfl, b17'⟩
  have b17 := b16.trans (b17'.mono b16.size)
  clear b16 b17'
  go_wp2_with fail
  refine (HZ.out _ b17).mono ?_
  rintro e w18 ⟨rfl, b18'⟩
  have b18 := b17.trans (b18'.mono b17.size)
  clear b17 b18'
  go_wp2_with fail
  refine (HMT.out _ (HR.out.call b18)).mono ?_
  rintro e w19 ⟨rfl, b19'⟩
  have b19 := b18.trans (b19'.mono b18.size)
  have uzz := UZZ.out
  clear b18 b19'
  go_wp2_with fail
  go_ret
  exact ⟨rfl, b19⟩
end Go.Proofs.YtojincgbnjkegaaDoor

/-
  How an argument of the laws is opened, and shut again: a wide number, a fraction, a word.
-/
namespace Go.Proofs.YtojincgbnjkegaaDoor
set_option linter.unusedVariables false
set_option maxRecDepth 100000
open Go.ChangeShapes Go.WideShapes Go.ChangeAt Go.RowKit Go.Joins

theorem own : ownKnob Tryd.prog.godebug = none := by kernel_rfl
theorem laidOut : laidOutB Tryd.prog = true := by kernel_rfl
theorem word_of_wf {x : Int} (h : (Lit.int .u64 x).wf = true) : Word x := by
  simp [Lit.wf, IntKind.min, IntKind.max, IntKind.signed, IntKind.bits] at h
  exact ⟨by omega, by omega⟩
theorem cellsWide : Tryd.prog.cellsOf 101 = 2 := by kernel_rfl
theorem wide_reads {H : Type} {enc : TypeId × Value → H} {a b : Int} (wa : (Lit.int .u64 a).wf = true) (wb : (Lit.int .u64 b).wf = true) (W' : World) (sp : Nat → Bool) :
    DataW.Trod enc Tryd.prog W' 0 sp true 101 (.agg #[.int .u64 a, .int .u64 b]) (.agg [.lit (.int .u64 a), .lit (.int .u64 b)]) [] :=
  shut_agg2 (y0 := (.lit (.int .u64 a), [])) (y1 := (.lit (.int .u64 b), [])) Tryd.underlying101 (by kernel_rfl) cellsWide ⟨1, by simp [DataW.trod, Tryd.underlying23, wa]⟩ ⟨1, by simp [DataW.trod, Tryd.underlying23, wb]⟩
theorem wide_opens {H : Type} {enc : TypeId × Value → H} {W : World} {r : Reach} {b0 : Nat} {sp : Nat → Bool} {v : Value} {d : DataW H} {p : List MemPlace} (hv : Value.okWide Tryd.prog W r b0 101 v) (h : DataW.Trod enc Tryd.prog W 0 sp true 101 v d p) :
    ∃ a b : Int, v = .agg #[.int .u64 a, .int .u64 b] ∧ d = .agg [.lit (.int .u64 a), .lit (.int .u64 b)] ∧ p = [] ∧ (Lit.int .u64 a).wf = true ∧ (Lit.int .u64 b).wf = true := by
  obtain ⟨c0, c1, y0, y1, m, rfl, rfl, rfl, hy0, hy1⟩ := open_agg2 Tryd.underlying101 (by kernel_rfl) cellsWide hv h
  obtain ⟨a, e0, rfl, wa⟩ := DataW.trod_int Tryd.underlying23 hy0
  obtain ⟨b, e1, rfl, wb⟩ := DataW.trod_int Tryd.underlying23 hy1
  simp at e0 e1
  subst e0 e1
  exact ⟨a, b, rfl, rfl, rfl, wa, wb⟩
theorem cellsRatio : Tryd.prog.cellsOf 25 = 2 := by kernel_rfl
theorem ratio_reads {H : Type} {enc : TypeId × Value → H} {a b : Int} (wa : (Lit.int .u64 a).wf = true) (wb : (Lit.int .u64 b).wf = true) (W' : World) (sp : Nat → Bool) :
    DataW.Trod enc Tryd.prog W' 0 sp true 25 (.agg #[.int .u64 a, .int .u64 b]) (.agg [.lit (.int .u64 a), .lit (.int .u64 b)]) [] :=
  shut_agg2 (y0 := (.lit (.int .u64 a), [])) (y1 := (.lit (.int .u64 b), [])) Tryd.underlying25 (by kernel_rfl) cellsRatio ⟨1, by simp [DataW.trod, Tryd.underlying23, wa]⟩ ⟨1, by simp [DataW.trod, Tryd.underlying23, wb]⟩
theorem ratio_opens {H : Type} {enc : TypeId × Value → H} {W : World} {r : Reach} {b0 : Nat} {sp : Nat → Bool} {v : Value} {d : DataW H} {p : List MemPlace} (hv : Value.okWide Tryd.prog W r b0 25 v) (h : DataW.Trod enc Tryd.prog W 0 sp true 25 v d p) :
    ∃ a b : Int, v = .agg #[.int .u64 a, .int .u64 b] ∧ d = .agg [.lit (.int .u64 a), .lit (.int .u64 b)] ∧ p = [] ∧ (Lit.int .u64 a).wf = true ∧ (Lit.int .u64 b).wf = true := by
  obtain ⟨c0, c1, y0, y1, m, rfl, rfl, rfl, hy0, hy1⟩ := open_agg2 Tryd.underlying25 (by kernel_rfl) cellsRatio hv h
  obtain ⟨a, e0, rfl, wa⟩ := DataW.trod_int Tryd.underlying23 hy0
  obtain ⟨b, e1, rfl, wb⟩ := DataW.trod_int Tryd.underlying23 hy1
  simp at e0 e1
  subst e0 e1
  exact ⟨a, b, rfl, rfl, rfl, wa, wb⟩
end Go.Proofs.YtojincgbnjkegaaDoor

/-
  How arguments are opened where the reach counts: bytes, half words, strings.
-/
namespace Go.Proofs.YtojincgbnjkegaaDoor
set_option linter.unusedVariables false
open Go.ChangeShapes Go.WideShapes Go.ChangeAt Go.RowKit Go.Joins

theorem byte_of_wf {x : Int} (h : (Lit.int .u8 x).wf = true) : 0 ≤ x ∧ x < 256 := by
  simp [Lit.wf, IntKind.min, IntKind.max, IntKind.signed, IntKind.bits] at h
  exact ⟨by omega, by omega⟩
theorem half_of_wf {x : Int} (h : (Lit.int .u32 x).wf = true) : 0 ≤ x ∧ x < 4294967296 := by
  simp [Lit.wf, IntKind.min, IntKind.max, IntKind.signed, IntKind.bits] at h
  exact ⟨by omega, by omega⟩
theorem size_reach {s : ByteArray} (h : s.data.toList.length ≤ reachBytes) : s.size ≤ 140737488351232 := by
  rw [Lib.size_eq]; exact h
end Go.Proofs.YtojincgbnjkegaaDoor

/-
  How a row of pairs, and a row of rows, that comes in as an argument is opened.
  How a pair that comes in as an argument by value is opened, and shut again.
-/
namespace Go.Proofs.YtojincgbnjkegaaDoor
set_option linter.unusedVariables false
set_option linter.unusedSimpArgs false
set_option maxRecDepth 100000
open Go.ChangeShapes Go.WideShapes Go.ChangeAt Go.RowKit Go.Joins

instance : Inhabited RowV := ⟨⟨none, 0, []⟩⟩
theorem add_deep (a : Addr) (i j : Nat) : (a.add i).add j = a.add (i + j) := Go.Deep.add_add a i j
theorem cellsPair : Tryd.prog.cellsOf 77 = 2 := by kernel_rfl
theorem bytesPair : Tryd.prog.bytesOf 77 = 16 := by kernel_rfl
theorem cellsRow2 : Tryd.prog.cellsOf 70 = 1 := by kernel_rfl
theorem bytesRow2 : Tryd.prog.bytesOf 70 = 24 := by kernel_rfl
/-- Two cells that read as a pair. -/
theorem open_pair {H : Type} {enc : TypeId × Value → H} {W : World} {base n : Nat} {spare : Nat → Bool} {held : Bool} {ad : Addr} {cs : List Value} {d : DataW H} {pl : List MemPlace}
    (hc : W.cells? base ad 2 = some cs) (h : DataW.trod enc Tryd.prog W base spare held n 77 cs = some (d, pl)) :
    ∃ p : PairV, okP p ∧ W.cell? (ad.add 0) = some (.int .i64 p.1) ∧ W.cell? (ad.add 1) = some (.int .u64 p.2) := by
  obtain ⟨_, hl, hat⟩ := World.cells?_some hc
  obtain ⟨ys, m, _, hx, _, hyl, hf⟩ := DataW.trod_struct Tryd.underlying77 h
  match cs, hl with
  | [x0, x1], _ =>
    have h0 := hf 0 _ rfl
    have h1 := hf 1 _ rfl
    match ys, hyl with
    | [y0, y1], _ =>
      obtain ⟨i, e0, r0, w0⟩ := DataW.trod_int Tryd.underlying3 h0
      obtain ⟨c, e1, r1, w1⟩ := DataW.trod_int Tryd.underlying23 h1
      have g0 : [x0] = [.int .i64 i] := e0
      have g1 : [x1] = [.int .u64 c] := e1
      simp only [List.cons.injEq, and_true] at g0 g1
      subst g0 g1
      exact ⟨(i, c), ⟨i64_of_wf w0, word_of_wf w1⟩, hat 0 (by omega), hat 1 (by omega)⟩
/-- Cells that read as a row of pairs. -/
theorem open_row {H : Type} {enc : TypeId × Value → H} {W : World} {n : Nat} {cs : List Value} {d : DataW H} {pl : List MemPlace}
    (hf : DataW.trod enc Tryd.prog W 0 (fun _ => true) true n 70 cs = some (d, pl)) (hz : ∀ n ∈ DataW.weights Tryd.prog 70 d, n ≤ reachBytes) :
    ∃ A cap L, cs = [.slice A (List.length L) cap] ∧ Pairs W A L ∧ L.length ≤ 140737488351232 := by
  rcases Go.Deep.open_slice Tryd.underlying70 hf with ⟨hcs, hx⟩ | ⟨a, len, cap, m, n, D, Pl, hcs, _, hl, hm, hmm, hx, hi⟩
  · exact ⟨none, 0, [], hcs, Pairs.nil W, Nat.zero_le _⟩
  · simp only [if_true] at hmm
    obtain rfl : cap = m := hmm.symm
    simp only [Prod.mk.injEq] at hx
    obtain ⟨rfl, rfl⟩ := hx
    have hw : DataW.weights Tryd.prog 70 (.slice ((List.range len).map D) ((List.range (cap - len)).map fun j => D (len + j))) =
        (((List.range len).map D).length + ((List.range (cap - len)).map fun j => D (len + j)).length) * Tryd.prog.bytesOf 77 ::
        (DataW.weightsAll Tryd.prog 77 ((List.range len).map D) ++ DataW.weightsAll Tryd.prog 77 ((List.range (cap - len)).map fun j => D (len + j))) := by
      conv => lhs; unfold DataW.weights
      rw [Tryd.underlying70]
    have hlen : len ≤ 140737488351232 := by
      have := hz _ (by rw [hw]; exact List.mem_cons_self)
      rw [bytesPair] at this
      simp only [List.length_map, List.length_range, reachBytes] at this
      omega
    have hall : ∀ i, i < len → ∃ p : PairV, okP p ∧ W.cell? (a.add (i * 2)) = some (.int .i64 p.1) ∧ W.cell? (a.add (i * 2 + 1)) = some (.int .u64 p.2) := by
      intro i hi'
      obtain ⟨cs', hc, ht⟩ := hi i (by omega)
      rw [cellsPair] at hc
      obtain ⟨p, i1, c0, c1⟩ := open_pair hc ht
      rw [add_deep] at c0 c1
      exact ⟨p, i1, c0, c1⟩
    obtain ⟨f, hf'⟩ := Go.Deep.choose_lt hall
    refine ⟨some a, cap, (List.range len).map f, by rw [hcs]; simp, ⟨?_, ?_⟩, by simpa using hlen⟩
    · intro p hp
      obtain ⟨i, hi1, rfl⟩ := List.mem_map.1 hp
      exact (hf' i (List.mem_range.1 hi1)).1
    · intro i p hp
      have hil : i < len := by
        rcases Nat.lt_or_ge i len with h | h
        · exact h
        · rw [List.getElem?_eq_none (by simpa using h)] at hp; cases hp
      simp only [List.getElem?_map, List.getElem?_range hil, Option.map_some, Option.some.injEq] at hp
      subst hp
      obtain ⟨_, c0, c1⟩ := hf' i hil
      obtain ⟨b, off, spot⟩ := a
      have hspot : spot = none := by
        have z0 := (hf' 0 (by omega)).2.1
        simpa [Addr.add] using World.cell?_spot z0
      subst hspot
      have hb : b < W.heap.size := by
        have := World.block_lt_of_cell? W _ c0
        revert this; unfold Addr.add; split <;> simp
      refine ⟨b, off, rfl, hb, ?_, ?_⟩
      · rw [← add_flat]; exact c0
      · rw [Nat.add_assoc, ← add_flat]; exact c1

theorem open_pairs {H : Type} {enc : TypeId × Value → H} {W : World} {base : Nat} {v : Value} {d : DataW H} {p : List MemPlace}
    (hv : Value.okWide Tryd.prog W .any base 70 v) (h : DataW.Trod enc Tryd.prog W 0 (fun _ => true) true 70 v d p)
    (hz : ∀ n ∈ DataW.weights Tryd.prog 70 d, n ≤ reachBytes) :
    ∃ A cap L, v = .slice A (List.length L) cap ∧ Pairs W A L ∧ L.length ≤ 140737488351232 := by
  obtain ⟨a0, len, cap, rfl⟩ := okWide_slice Tryd.underlying70 hv
  obtain ⟨fuel, hf⟩ := h
  obtain ⟨A, cap', L, hcs, hP, hl⟩ := open_row hf hz
  simp [Value.cells] at hcs
  obtain ⟨rfl, rfl, rfl⟩ := hcs
  exact ⟨_, _, L, rfl, hP, hl⟩

end Go.Proofs.YtojincgbnjkegaaDoor

namespace Go.Proofs.YtojincgbnjkegaaDoor
set_option maxRecDepth 100000
set_option linter.unusedVariables false
set_option linter.unusedSimpArgs false
open Go.ChangeShapes Go.WideShapes Go.ChangeAt Go.RowKit Go.Joins

theorem pair_reads {H : Type} {enc : TypeId × Value → H} {a b : Int} (wa : (Lit.int .i64 a).wf = true) (wb : (Lit.int .u64 b).wf = true) (W' : World) (sp : Nat → Bool) :
    DataW.Trod enc Tryd.prog W' 0 sp true 77 (.agg #[.int .i64 a, .int .u64 b]) (.agg [.lit (.int .i64 a), .lit (.int .u64 b)]) [] :=
  shut_agg2 (y0 := (.lit (.int .i64 a), [])) (y1 := (.lit (.int .u64 b), [])) Tryd.underlying77 (by kernel_rfl) cellsPair ⟨1, by simp [DataW.trod, Tryd.underlying3, wa]⟩ ⟨1, by simp [DataW.trod, Tryd.underlying23, wb]⟩
theorem pair_opens {H : Type} {enc : TypeId × Value → H} {W : World} {r : Reach} {b0 : Nat} {sp : Nat → Bool} {v : Value} {d : DataW H} {p : List MemPlace} (hv : Value.okWide Tryd.prog W r b0 77 v) (h : DataW.Trod enc Tryd.prog W 0 sp true 77 v d p) :
    ∃ a b : Int, v = .agg #[.int .i64 a, .int .u64 b] ∧ d = .agg [.lit (.int .i64 a), .lit (.int .u64 b)] ∧ p = [] ∧ (Lit.int .i64 a).wf = true ∧ (Lit.int .u64 b).wf = true := by
  obtain ⟨c0, c1, y0, y1, m, rfl, rfl, rfl, hy0, hy1⟩ := open_agg2 Tryd.underlying77 (by kernel_rfl) cellsPair hv h
  obtain ⟨a, e0, rfl, wa⟩ := DataW.trod_int Tryd.underlying3 hy0
  obtain ⟨b, e1, rfl, wb⟩ := DataW.trod_int Tryd.underlying23 hy1
  simp at e0 e1
  subst e0 e1
  exact ⟨a, b, rfl, rfl, rfl, wa, wb⟩
end Go.Proofs.YtojincgbnjkegaaDoor

/-
  How a row of values, and a case of layer 13's laws, that come in as arguments are opened.
-/
namespace Go.Proofs.YtojincgbnjkegaaDoor
set_option linter.unusedVariables false
set_option linter.unusedSimpArgs false
set_option maxRecDepth 100000
open Go.ChangeShapes Go.WideShapes Go.ChangeAt Go.RowKit Go.Joins

theorem cellsVal : Tryd.prog.cellsOf 67 = 2 := by kernel_rfl
theorem bytesVal : Tryd.prog.bytesOf 67 = 16 := by kernel_rfl
/-- Two cells that read as a pair. -/
theorem open_val {H : Type} {enc : TypeId × Value → H} {W : World} {base n : Nat} {spare : Nat → Bool} {held : Bool} {ad : Addr} {cs : List Value} {d : DataW H} {pl : List MemPlace}
    (hc : W.cells? base ad 2 = some cs) (h : DataW.trod enc Tryd.prog W base spare held n 67 cs = some (d, pl)) :
    ∃ p : PairV, okP p ∧ W.cell? (ad.add 0) = some (.int .i64 p.1) ∧ W.cell? (ad.add 1) = some (.int .u64 p.2) := by
  obtain ⟨_, hl, hat⟩ := World.cells?_some hc
  obtain ⟨ys, m, _, hx, _, hyl, hf⟩ := DataW.trod_struct Tryd.underlying67 h
  match cs, hl with
  | [x0, x1], _ =>
    have h0 := hf 0 _ rfl
    have h1 := hf 1 _ rfl
    match ys, hyl with
    | [y0, y1], _ =>
      obtain ⟨i, e0, r0, w0⟩ := DataW.trod_int Tryd.underlying2 h0
      obtain ⟨c, e1, r1, w1⟩ := DataW.trod_int Tryd.underlying23 h1
      have g0 : [x0] = [.int .i64 i] := e0
      have g1 : [x1] = [.int .u64 c] := e1
      simp only [List.cons.injEq, and_true] at g0 g1
      subst g0 g1
      exact ⟨(i, c), ⟨i64_of_wf w0, word_of_wf w1⟩, hat 0 (by omega), hat 1 (by omega)⟩
/-- Cells that read as a row of pairs. -/
theorem open_vrow {H : Type} {enc : TypeId × Value → H} {W : World} {n : Nat} {cs : List Value} {d : DataW H} {pl : List MemPlace}
    (hf : DataW.trod enc Tryd.prog W 0 (fun _ => true) true n 22 cs = some (d, pl)) (hz : ∀ n ∈ DataW.weights Tryd.prog 22 d, n ≤ reachBytes) :
    ∃ A cap L, cs = [.slice A (List.length L) cap] ∧ Pairs W A L ∧ L.length ≤ 140737488351232 := by
  rcases Go.Deep.open_slice Tryd.underlying22 hf with ⟨hcs, hx⟩ | ⟨a, len, cap, m, n, D, Pl, hcs, _, hl, hm, hmm, hx, hi⟩
  · exact ⟨none, 0, [], hcs, Pairs.nil W, Nat.zero_le _⟩
  · simp only [if_true] at hmm
    obtain rfl : cap = m := hmm.symm
    simp only [Prod.mk.injEq] at hx
    obtain ⟨rfl, rfl⟩ := hx
    have hw : DataW.weights Tryd.prog 22 (.slice ((List.range len).map D) ((List.range (cap - len)).map fun j => D (len + j))) =
        (((List.range len).map D).length + ((List.range (cap - len)).map fun j => D (len + j)).length) * Tryd.prog.bytesOf 67 ::
        (DataW.weightsAll Tryd.prog 67 ((List.range len).map D) ++ DataW.weightsAll Tryd.prog 67 ((List.range (cap - len)).map fun j => D (len + j))) := by
      conv => lhs; unfold DataW.weights
      rw [Tryd.underlying22]
    have hlen : len ≤ 140737488351232 := by
      have := hz _ (by rw [hw]; exact List.mem_cons_self)
      rw [bytesVal] at this
      simp only [List.length_map, List.length_range, reachBytes] at this
      omega
    have hall : ∀ i, i < len → ∃ p : PairV, okP p ∧ W.cell? (a.add (i * 2)) = some (.int .i64 p.1) ∧ W.cell? (a.add (i * 2 + 1)) = some (.int .u64 p.2) := by
      intro i hi'
      obtain ⟨cs', hc, ht⟩ := hi i (by omega)
      rw [cellsVal] at hc
      obtain ⟨p, i1, c0, c1⟩ := open_val hc ht
      rw [add_deep] at c0 c1
      exact ⟨p, i1, c0, c1⟩
    obtain ⟨f, hf'⟩ := Go.Deep.choose_lt hall
    refine ⟨some a, cap, (List.range len).map f, by rw [hcs]; simp, ⟨?_, ?_⟩, by simpa using hlen⟩
    · intro p hp
      obtain ⟨i, hi1, rfl⟩ := List.mem_map.1 hp
      exact (hf' i (List.mem_range.1 hi1)).1
    · intro i p hp
      have hil : i < len := by
        rcases Nat.lt_or_ge i len with h | h
        · exact h
        · rw [List.getElem?_eq_none (by simpa using h)] at hp; cases hp
      simp only [List.getElem?_map, List.getElem?_range hil, Option.map_some, Option.some.injEq] at hp
      subst hp
      obtain ⟨_, c0, c1⟩ := hf' i hil
      obtain ⟨b, off, spot⟩ := a
      have hspot : spot = none := by
        have z0 := (hf' 0 (by omega)).2.1
        simpa [Addr.add] using World.cell?_spot z0
      subst hspot
      have hb : b < W.heap.size := by
        have := World.block_lt_of_cell? W _ c0
        revert this; unfold Addr.add; split <;> simp
      refine ⟨b, off, rfl, hb, ?_, ?_⟩
      · rw [← add_flat]; exact c0
      · rw [Nat.add_assoc, ← add_flat]; exact c1

theorem open_vals {H : Type} {enc : TypeId × Value → H} {W : World} {base : Nat} {v : Value} {d : DataW H} {p : List MemPlace}
    (hv : Value.okWide Tryd.prog W .any base 22 v) (h : DataW.Trod enc Tryd.prog W 0 (fun _ => true) true 22 v d p)
    (hz : ∀ n ∈ DataW.weights Tryd.prog 22 d, n ≤ reachBytes) :
    ∃ A cap L, v = .slice A (List.length L) cap ∧ Pairs W A L ∧ L.length ≤ 140737488351232 := by
  obtain ⟨a0, len, cap, rfl⟩ := okWide_slice Tryd.underlying22 hv
  obtain ⟨fuel, hf⟩ := h
  obtain ⟨A, cap', L, hcs, hP, hl⟩ := open_vrow hf hz
  simp [Value.cells] at hcs
  obtain ⟨rfl, rfl, rfl⟩ := hcs
  exact ⟨_, _, L, rfl, hP, hl⟩

end Go.Proofs.YtojincgbnjkegaaDoor
/-
  Rows of values of the call's own, and how one is appended to one.
-/
namespace Go.Proofs.YtojincgbnjkegaaDoor
set_option linter.unusedVariables false
set_option linter.unusedSimpArgs false
set_option maxRecDepth 100000
open Go.RowKit

theorem own_vals {w : World} {base : Nat} {v : Value} {L : List PairV} (h : w.ownsRow base 67 2 v L.length (cellsQ L)) (hok : ∀ p, p ∈ L → okP p) :
    ∃ A cap, v = .slice A L.length cap ∧ Pairs w A L := by
  have hh := h
  rcases h.2 with ⟨rfl, h0⟩ | ⟨g, cap, cur, rfl, _, hg, _⟩
  · have e : L = [] := List.eq_nil_of_length_eq_zero h0
    subst e
    exact ⟨none, 0, rfl, hok, fun i p hi => by simp at hi⟩
  · refine ⟨some ⟨g, 0, none⟩, cap, rfl, hok, fun i p hi => ?_⟩
    have hc := hh.cells (g := g) rfl
    obtain ⟨c0, c1⟩ := cellsQ_at L i p hi
    refine ⟨g, 0, rfl, lt_of_block hg, ?_, ?_⟩
    · rw [← add_flat]; exact hc _ _ c0
    · rw [Nat.add_assoc, ← add_flat]; exact hc _ _ c1
theorem Tryd.infoVal : (Tryd.prog.info? 67).map (fun i => (i.zero, i.size, i.bytes)) = some (some (.agg #[.int .i64 0, .int .u64 0]), 2, 16) := by kernel_rfl
def OwnV (w : World) (base : Nat) (v : Value) (L : List PairV) : Prop := w.ownsRow base 67 2 v L.length (cellsQ L)
theorem OwnV.nil (w : World) (base : Nat) : OwnV w base (.slice none 0 0) [] := World.ownsRow_nil _ _ _ _
theorem OwnV.call {w w' : World} {base : Nat} {v : Value} {L : List PairV} (h : OwnV w base v L) (hb : Below w.heap.size w w') : OwnV w' base v L :=
  World.ownsRow.kept (row := none) h ⟨hb.os, hb.tape, hb.output, hb.size, fun i hi _ => hb.block i hi⟩ (by cases v.ownBlock <;> simp)
theorem OwnV.pairs {w : World} {base : Nat} {v : Value} {L : List PairV} (h : OwnV w base v L) (hok : ∀ p, p ∈ L → okP p) : ∃ A cap, v = .slice A L.length cap ∧ Pairs w A L := own_vals h hok
theorem OwnV.lt {w : World} {base : Nat} {v : Value} {L : List PairV} (h : OwnV w base v L) : ∀ k, v.ownBlock = some k → base ≤ k ∧ k < w.heap.size := World.ownsRow.lt h

theorem OwnV.form {w : World} {base : Nat} {v : Value} {L : List PairV} (h : OwnV w base v L) : ∃ A cap, v = .slice A L.length cap := by
  have h' : w.ownsRow base 67 2 v L.length (cellsQ L) := h
  rcases h'.2 with ⟨rfl, h0⟩ | ⟨g, cap, cur, rfl, _⟩
  · exact ⟨none, 0, by rw [h0]⟩
  · exact ⟨_, _, rfl⟩
/-- Appending a whole row of pairs, a nil one too, to one of the call's own. -/
theorem wpList_append_vals {w : World} {ops : Array Oper} {rest : List Oper} {o : Oper} {a : Act} {Q : Exit → Act → World → Prop} (hgd : o.guard = none) (s x : Operand)
    (ho : o.op = .call { callee := .builtin .append, args := #[s, x], argTypes := #[22, 22] })
    (base : Nat) (v : Value) (M : List PairV) (A : Option Addr) (cap : Nat) (L : List PairV) (hs : a.eval s = v) (hown : OwnV w base v M)
    (hx : a.eval x = .slice A L.length cap) (hsrc : Pairs w A L) (hn : M.length + L.length ≤ 100000) (hbase : base ≤ w.heap.size)
    (h : ∀ v' w', OwnV w' base v' (M ++ L) → w.grownBy w' v.ownBlock → wpList Tryd.prog ops Q rest (a.put o.dst v') w') : wpList Tryd.prog ops Q (o :: rest) a w := by
  obtain ⟨i0, hi, hz0, hz1, hz2⟩ := info_parts Tryd.infoVal
  by_cases hL : L = []
  · subst hL
    have hx' : a.eval x = .slice A 0 cap := hx
    have hrun : (Builtin.append_ #[22, 22] o.type #[v, .slice A 0 cap]).run Tryd.prog w = .ok v w := by
      have hl : ∀ (b : Option Addr) (n c : Nat), (Builtin.firstCells 2 0 (.slice A 0 cap)).run Tryd.prog w = .ok #[] w := by
        intro b n c
        cases A with
        | none => exact run_firstCells_none w 2 0 0 cap
        | some ad => exact run_firstCells_some w 2 0 ad 0 cap [] rfl (fun j v hj => by simp at hj)
      rcases hown.2 with ⟨rfl, h0⟩ | ⟨g, c2, cur, rfl, _, _, hnc, _⟩
      · rw [show (0 : Nat) = 0 from rfl] at *
        simp [Builtin.append_, run_underlying Tryd.underlying22, sizeOf, typeInfo, hi, hz1, Builtin.lenOf, hl none 0 0]
      · simp [Builtin.append_, run_underlying Tryd.underlying22, sizeOf, typeInfo, hi, hz1, Builtin.lenOf, hnc, storeCells, hl none 0 0]
    refine wpList_plain hgd fun K hK => ?_
    unfold Oper.wp
    simp [execOp, ho, resolve, invoke, builtin, hs, hx', hrun, Result.andThen]
    exact hK _ _ (h v w (by rw [List.append_nil]; exact hown) (World.grownBy.refl _ _))
  · obtain ⟨p, hp⟩ : ∃ p, L[0]? = some p := by
      cases L with
      | nil => exact absurd rfl hL
      | cons p r => exact ⟨p, rfl⟩
    obtain ⟨b, off, rfl, _, _, _⟩ := hsrc.at_ 0 p hp
    refine wpList_append_own w hgd s x _ ho base _ i0 _ 2 16 Tryd.underlying22 hi hz0 hz1 hz2 rfl (by decide) v M.length (cellsQ M) hs hown ⟨b, off, none⟩ L.length cap (cellsQ L) hx (cellsQ_len L) ?_ (cellsQ_one L)
      (by unfold maxLen; omega) (by omega) hbase (fun v' w' h1 h2 _ => h v' w' ?_ h2)
    · intro j u hu
      rw [add_flat]
      have hj : j < L.length * 2 := by
        rcases Nat.lt_or_ge j (L.length * 2) with h1 | h1
        · exact h1
        · rw [List.getElem?_eq_none (by rw [cellsQ_len]; exact h1)] at hu; cases hu
      have hq := List.getElem?_eq_getElem (l := L) (i := j / 2) (by omega)
      obtain ⟨b', off', e, _, c0, c1⟩ := hsrc.at_ (j / 2) _ hq
      obtain ⟨rfl, rfl⟩ : b = b' ∧ off = off' := by
        have := Option.some.inj e
        exact ⟨(Addr.mk.inj this).1, (Addr.mk.inj this).2.1⟩
      obtain ⟨q0, q1⟩ := cellsQ_at L (j / 2) _ hq
      rcases Nat.mod_two_eq_zero_or_one j with h2 | h2
      · have e1 : j / 2 * 2 = j := by omega
        rw [e1] at q0 c0; rw [q0] at hu; rw [c0, ← Option.some.inj hu]
      · have e1 : j / 2 * 2 + 1 = j := by omega
        rw [Nat.add_assoc, e1] at c1; rw [e1] at q1; rw [q1] at hu; rw [c1, ← Option.some.inj hu]
    · unfold OwnV
      rw [cellsQ_app, List.length_append]
      exact h1


theorem OwnV.below {a w w' : World} {base : Nat} {v : Value} {L : List PairV} (h : OwnV w base v L) (hb : Below base a w) (hg : w.grownBy w' v.ownBlock) (hs : base ≤ w.heap.size) : Below base a w' := hb.grown hg hs (fun k hk => (h.lt k hk).1)

/-- The reference's bins with a row of the call's own set. -/
theorem RefN.own {w : World} {M : Nat} {P : Pt} {s : Bool} {m : Int} {A : List PairV} {g cap : Nat} (h : RefN w M P s m []) (hv : Pairs w (some ⟨g, 0, none⟩) A) (hg : g ≠ M) :
    RefN (w.setCell ⟨M, 5, none⟩ (.slice (some ⟨g, 0, none⟩) A.length cap)) M P s m A := by
  obtain ⟨lo, re, dg, a0, cap0, h1, h2, h3⟩ := h.ex
  have hsz : (w.setCell ⟨M, 5, none⟩ (.slice (some ⟨g, 0, none⟩) A.length cap)).heap.size = w.heap.size := by simp [World.setCell]
  refine ⟨lo, re, dg, some ⟨g, 0, none⟩, cap, ?_, ⟨hv.ok, fun i p hp => ?_⟩, ?_⟩
  · cases P with
    | cells u v n =>
      obtain ⟨h0, g, k, c, c', e1, e2, n1, n2, e3, e4⟩ := h1
      exact ⟨h0, g, k, c, c', e1, e2, n1, n2, fun i hi => (setCell_other_heap n1 i).trans (e3 i hi), fun i hi => (setCell_other_heap n2 i).trans (e4 i hi)⟩
    | spans d L T => exact h1
  · obtain ⟨b, off, hb, hl, c0, c1⟩ := hv.at_ i p hp
    obtain ⟨rfl, rfl⟩ : g = b ∧ 0 = off := by
      have := Option.some.inj hb
      exact ⟨(Addr.mk.inj this).1, (Addr.mk.inj this).2.1⟩
    exact ⟨g, 0, rfl, by rw [hsz]; exact hl, (setCell_other_heap hg _).trans c0, (setCell_other_heap hg _).trans c1⟩
  · rw [Joins.block_setCell h3]; rfl
theorem RefN.void {w : World} {M : Nat} {P : Pt} {s : Bool} {m : Int} {a : Option Addr} {cap : Nat} (h : RefN w M P s m []) : RefN (w.setCell ⟨M, 5, none⟩ (.slice a 0 cap)) M P s m [] := by
  obtain ⟨lo, re, dg, a0, cap0, h1, h2, h3⟩ := h.ex
  refine ⟨lo, re, dg, a, cap, ?_, ⟨fun p h => (by cases h), fun i p hp => by simp at hp⟩, ?_⟩
  · cases P with
    | cells u v n =>
      obtain ⟨h0, g, k, c, c', e1, e2, n1, n2, e3, e4⟩ := h1
      exact ⟨h0, g, k, c, c', e1, e2, n1, n2, fun i hi => (setCell_other_heap n1 i).trans (e3 i hi), fun i hi => (setCell_other_heap n2 i).trans (e4 i hi)⟩
    | spans d L T => exact h1
  · rw [Joins.block_setCell h3]; rfl
end Go.Proofs.YtojincgbnjkegaaDoor

/-
  Appending one value to a row of one's own, that tells where the new row lies; a row that another call leaves alone.
-/
namespace Go.Proofs.YtojincgbnjkegaaDoor
set_option linter.unusedVariables false
set_option linter.unusedSimpArgs false
open Go.RowKit

theorem wpList_append_val15 {w : World} {ops : Array Oper} {rest : List Oper} {o : Oper} {a : Act} {Q : Exit → Act → World → Prop} (hgd : o.guard = none) (s x : Operand)
    (ho : o.op = .call { callee := .builtin .append, args := #[s, x], argTypes := #[22, 22] })
    (base : Nat) (v : Value) (L : List PairV) (n : Nat) (hln : L.length = n) (g : Nat) (p : PairV) (hs : a.eval s = v) (hown : OwnV w base v L)
    (hx : a.eval x = .slice (some ⟨g, 0, none⟩) 1 1) (h0 : w.cell? ⟨g, 0, none⟩ = some (.int .i64 p.1)) (h1 : w.cell? ⟨g, 1, none⟩ = some (.int .u64 p.2)) (hn : n ≤ 4000000) (hbase : base ≤ w.heap.size)
    (h : ∀ g' cap w', OwnV w' base (.slice (some ⟨g', 0, none⟩) (n + 1) cap) (L ++ [p]) → w.grownBy w' v.ownBlock → (v.ownBlock = some g' ∨ g' = w.heap.size) → wpList Tryd.prog ops Q rest (a.put o.dst (.slice (some ⟨g', 0, none⟩) (n + 1) cap)) w') : wpList Tryd.prog ops Q (o :: rest) a w := by
  subst hln
  obtain ⟨i0, hi, hz0, hz1, hz2⟩ := info_parts Tryd.infoVal
  obtain ⟨q0, q1⟩ := cellsQ_at [p] 0 p rfl
  have q0 : (cellsQ [p])[0]? = some (.int .i64 p.1) := q0
  have q1 : (cellsQ [p])[1]? = some (.int .u64 p.2) := q1
  refine wpList_append_lies w hgd s x _ ho base _ i0 _ 2 16 Tryd.underlying22 hi hz0 hz1 hz2 rfl (by decide) v L.length (cellsQ L) hs hown ⟨g, 0, none⟩ 1 1 (cellsQ [p]) hx (cellsQ_len [p]) ?_ (cellsQ_one [p])
      (by decide) (by unfold maxLen; omega) (by omega) hbase _ rfl (fun g' cap w' h1 h2 h3 _ => h g' cap w' ?_ h2 h3)
  · intro j u hu
    have e : (⟨g, 0, none⟩ : Addr).add j = ⟨g, j, none⟩ := by rw [Addr.add_lit, Nat.zero_add]
    rw [e]
    match j, hu with
    | 0, hu => rw [q0] at hu; rw [← Option.some.inj hu]; exact h0
    | 1, hu => rw [q1] at hu; rw [← Option.some.inj hu]; exact h1
    | n + 2, hu => rw [List.getElem?_eq_none (by rw [cellsQ_len]; simp)] at hu; cases hu
  · unfold OwnV
    rw [cellsQ_app, List.length_append]
    exact h1
theorem ownv_keeps {S : Nat → Prop} {w w' : World} {base : Nat} {v : Value} {L : List PairV} (k : Keeps S w w') (h : OwnV w base v L) (hv : ∀ g, v.ownBlock = some g → ¬ S g) : OwnV w' base v L := by
  refine ⟨h.1, ?_⟩
  rcases h.2 with hn | ⟨g, cap, cur, rfl, hb, hgg, rest⟩
  · exact .inl hn
  · refine .inr ⟨g, cap, cur, rfl, hb, ?_, rest⟩
    rw [k.block g (lt_of_block hgg) (hv g rfl)]
    exact hgg
end Go.Proofs.YtojincgbnjkegaaDoor

/-
  Appending a row of values, as one step of a region that draws.
-/
namespace Go.Proofs.YtojincgbnjkegaaDoor
set_option linter.unusedVariables false
set_option linter.unusedSimpArgs false
open Go.RowKit

/-- append of a row of values, as one step of a region that draws. -/
theorem step_append_vals {w : World} {ops : Array Oper} {o : Oper} {a : Act} {K : Act → World → Prop} {Q : Exit → Act → World → Prop} {E : Prop} (hgd : o.guard = none) (s x : Operand)
    (ho : o.op = .call { callee := .builtin .append, args := #[s, x], argTypes := #[22, 22] })
    (base : Nat) (v : Value) (M : List PairV) (A : Option Addr) (n cap : Nat) (L : List PairV) (hs : a.eval s = v) (hown : OwnV w base v M)
    (hx : a.eval x = .slice A n cap) (hl : L.length = n) (hsrc : Pairs w A L) (hn : M.length + n ≤ 100000) (hbase : base ≤ w.heap.size)
    (h : ∀ v' w', OwnV w' base v' (M ++ L) → w.grownBy w' v.ownBlock → K (a.put o.dst v') w') : if Region.wanted o (yielded ops a.tmps) = true then Oper.wp Tryd.prog o a w K Q else E := by
  have hw : Region.wanted o (yielded ops a.tmps) = true := by simp [Region.wanted, hgd]
  rw [if_pos hw]
  subst hl
  obtain ⟨i0, hi, hz0, hz1, hz2⟩ := info_parts Tryd.infoVal
  by_cases hL : L = []
  · subst hL
    have hx' : a.eval x = .slice A 0 cap := hx
    have hrun : (Builtin.append_ #[22, 22] o.type #[v, .slice A 0 cap]).run Tryd.prog w = .ok v w := by
      have hl : ∀ (b : Option Addr) (n c : Nat), (Builtin.firstCells 2 0 (.slice A 0 cap)).run Tryd.prog w = .ok #[] w := by
        intro b n c
        cases A with
        | none => exact run_firstCells_none w 2 0 0 cap
        | some ad => exact run_firstCells_some w 2 0 ad 0 cap [] rfl (fun j v hj => by simp at hj)
      rcases hown.2 with ⟨rfl, h0⟩ | ⟨g, c2, cur, rfl, _, _, hnc, _⟩
      · rw [show (0 : Nat) = 0 from rfl] at *
        simp [Builtin.append_, run_underlying Tryd.underlying22, sizeOf, typeInfo, hi, hz1, Builtin.lenOf, hl none 0 0]
      · simp [Builtin.append_, run_underlying Tryd.underlying22, sizeOf, typeInfo, hi, hz1, Builtin.lenOf, hnc, storeCells, hl none 0 0]
    unfold Oper.wp
    simp [execOp, ho, resolve, invoke, builtin, hs, hx', hrun, Result.andThen]
    exact h v w (by rw [List.append_nil]; exact hown) (World.grownBy.refl _ _)
  · obtain ⟨p, hp⟩ : ∃ p, L[0]? = some p := by
      cases L with
      | nil => exact absurd rfl hL
      | cons p r => exact ⟨p, rfl⟩
    obtain ⟨b, off, rfl, _, _, _⟩ := hsrc.at_ 0 p hp
    refine wp_append_own w s x _ ho base _ i0 _ 2 16 Tryd.underlying22 hi hz0 hz1 hz2 rfl (by decide) v M.length (cellsQ M) hs hown ⟨b, off, none⟩ L.length cap (cellsQ L) hx (cellsQ_len L) ?_ (cellsQ_one L)
      (by unfold maxLen; omega) (by omega) hbase (fun v' w' h1 h2 _ => h v' w' ?_ h2)
    · intro j u hu
      rw [add_flat]
      have hj : j < L.length * 2 := by
        rcases Nat.lt_or_ge j (L.length * 2) with h1 | h1
        · exact h1
        · rw [List.getElem?_eq_none (by rw [cellsQ_len]; exact h1)] at hu; cases hu
      have hq := List.getElem?_eq_getElem (l := L) (i := j / 2) (by omega)
      obtain ⟨b', off', e, _, c0, c1⟩ := hsrc.at_ (j / 2) _ hq
      obtain ⟨rfl, rfl⟩ : b = b' ∧ off = off' := by
        have := Option.some.inj e
        exact ⟨(Addr.mk.inj this).1, (Addr.mk.inj this).2.1⟩
      obtain ⟨q0, q1⟩ := cellsQ_at L (j / 2) _ hq
      rcases Nat.mod_two_eq_zero_or_one j with h2 | h2
      · have e1 : j / 2 * 2 = j := by omega
        rw [e1] at q0 c0; rw [q0] at hu; rw [c0, ← Option.some.inj hu]
      · have e1 : j / 2 * 2 + 1 = j := by omega
        rw [Nat.add_assoc, e1] at c1; rw [e1] at q1; rw [q1] at hu; rw [c1, ← Option.some.inj hu]
    · unfold OwnV
      rw [cellsQ_app, List.length_append]
      exact h1

theorem OwnV.lies {w : World} {base n cap : Nat} {a : Option Addr} {L : List PairV} (h : OwnV w base (.slice a n cap) L) : ∀ (i : Nat) (p : PairV), L[i]? = some p → ∃ b off, a = some ⟨b, off, none⟩ ∧ base ≤ b := by
  intro i p hi
  have h' : w.ownsRow base 67 2 (.slice a n cap) L.length (cellsQ L) := h
  rcases h'.2 with ⟨_, h0⟩ | ⟨g, cap, cur, e, hb, _⟩
  · have : L = [] := List.eq_nil_of_length_eq_zero h0
    rw [this] at hi; simp at hi
  · injection e with e1 e2 e3
    exact ⟨g, 0, e1, hb⟩
theorem OwnV.row {w : World} {base n cap : Nat} {a : Option Addr} {L : List PairV} (h : OwnV w base (.slice a n cap) L) (hok : ∀ p, p ∈ L → okP p) : Pairs w a L := by
  obtain ⟨a', c', e, hP⟩ := h.pairs hok
  injection e with e1 e2 e3
  rw [e1]; exact hP
end Go.Proofs.YtojincgbnjkegaaDoor

/-
  From a row's condition on the package's variable to what the walks of layer 12 ask.
-/
namespace Go.Proofs.YtojincgbnjkegaaDoor
set_option linter.unusedVariables false

theorem tens_of_laid {W : World} (h : laidMetH Tryd.prog [("ogive/spans.tens", Rows.laid_ogive_spans_tens)] W) : Tens W := by
  rw [MakeChecks.laidMetH_plain _ _ _ (by kernel_rfl)] at h
  have ht := Lib.tabIs_of_head (k := .u64) (zs := [1, 10, 100, 1000, 10000]) (g := 0) (t := 136) (e := 23) (n := 5) (by kernel_rfl) (by kernel_rfl) (by kernel_rfl) (by kernel_rfl) (by kernel_rfl) (by kernel_rfl) h
  have hg : Tryd.prog.globalNamed "ogive/spans.tens" = some 0 := by kernel_rfl
  exact ⟨ht.cell hg 0 (by decide), ht.cell hg 1 (by decide), ht.cell hg 2 (by decide), ht.cell hg 3 (by decide), ht.cell hg 4 (by decide)⟩
end Go.Proofs.YtojincgbnjkegaaDoor

/-
  Walks of the laws of layer 2: SignParts, SignGaps, SignCodes, SignSides.
-/
namespace Go.Proofs.YtojincgbnjkegaaDoor
set_option linter.unusedVariables false
open Go.RowKit

theorem value_back (x : Int) (hx : I64 x) (w : World) :
    Calls Tryd.prog 76 #[.int .u64 (mag x), .bool (decide (x < 0))] w fun e w' =>
      e = .returned (.tuple #[.int .i64 x, .bool true]) ∧ w = w' := by
  have h := value_any (mag x) (decide (x < 0)) (mag_word hx) w
  rw [(valI_mag hx).1, (valI_mag hx).2] at h
  exact h

theorem i64_min : I64 (-9223372036854775808) := by unfold I64; omega
theorem i64_max : I64 9223372036854775807 := by unfold I64; omega
theorem of_min (w : World) : Calls Tryd.prog 66 #[.int .i64 (-9223372036854775808)] w fun e w' =>
      e = .returned (.tuple #[.int .u64 9223372036854775808, .bool true]) ∧ w = w' := of_any _ i64_min w

theorem of_back (m : Int) (b : Bool) (hm : Word m) (hc : canB m b = true) (w : World) :
    Calls Tryd.prog 66 #[.int .i64 (valI m b)] w fun e w' =>
      e = .returned (.tuple #[.int .u64 m, .bool (b && decide (0 < m))]) ∧ w = w' := by
  have h := of_any (valI m b) (valI_i64 hm) w
  rw [mag_valI hm hc, neg_valI hm hc] at h
  exact h

theorem value_can (m : Int) (b : Bool) (hm : Word m) (hc : canB m b = true) (w : World) :
    Calls Tryd.prog 76 #[.int .u64 m, .bool b] w fun e w' =>
      e = .returned (.tuple #[.int .i64 (valI m b), .bool true]) ∧ w = w' := by
  have h := value_any m b hm w
  rw [hc] at h
  exact h

theorem value_not (m : Int) (b : Bool) (hm : Word m) (hc : canB m b = false) (w : World) :
    Calls Tryd.prog 76 #[.int .u64 m, .bool b] w fun e w' =>
      e = .returned (.tuple #[.int .i64 0, .bool false]) ∧ w = w' := by
  have h := value_any m b hm w
  rw [hc, valI_no hc] at h
  exact h

end Go.Proofs.YtojincgbnjkegaaDoor
/-
  Walks: sign.Within, the reference's Within, and the law SignWithin.
-/
namespace Go.Proofs.YtojincgbnjkegaaDoor
set_option linter.unusedVariables false
open Go.RowKit

theorem near_cmp (r x n d : Int) : decide (cmpW (gap r x * d) (n * mag x) ≤ 0) = nearB r x n d := by
  unfold cmpW nearB; apply decide_eq_decide.2; split <;> (try split) <;> omega
theorem near_not (r x n d : Int) : (!decide (mag x * n < gap r x * d)) = nearB r x n d := by
  unfold nearB; rw [Int.mul_comm (mag x) n]
  by_cases h : gap r x * d ≤ n * mag x
  · rw [decide_eq_true h, decide_eq_false (by omega)]; rfl
  · rw [decide_eq_false h, decide_eq_true (by omega)]; rfl
theorem near_self (x n d : Int) (hx : I64 x) (hn : Word n) : nearB x x n d = true := by
  unfold nearB
  apply decide_eq_true
  have e : gap x x = 0 := by unfold gap; split <;> omega
  have := Int.mul_nonneg hn.1 (mag_bd hx).1
  rw [e, Int.zero_mul]; exact this

set_option maxHeartbeats 1000000 in
theorem rwithin_any (r x n d : Int) (hr : I64 r) (hx : I64 x) (hn : Word n) (hd : Word d) (w : World) :
    Calls Tryd.prog 20 #[.int .i64 r, .int .i64 x, .agg #[.int .u64 n, .int .u64 d]] w fun e w' =>
      e = .returned (.bool (nearB r x n d)) ∧ Below w.heap.size w w' := by
  have g := gap_word hr hx; have m := mag_word hx
  obtain ⟨x0, x1⟩ := mul_bd g hd
  obtain ⟨y0, y1⟩ := mul_bd m hn
  have E := Lib.hid (near_not r x n d)
  go_enter Tryd.func20, Tryd.ntmps20
  go_wp2_with fail
  have BB : Below w.heap.size w ((w.alloc (.cells #[.int .u64 n, .int .u64 d] 25))).drew := ((Below.refl _ _).alloc (Nat.le_refl _) _).drew
  go_region_held3 (fun w' => w'.cell? ⟨w.heap.size, 0, none⟩ = some (.int .u64 n) ∧ w'.cell? ⟨w.heap.size, 1, none⟩ = some (.int .u64 d) ∧ Below w.heap.size w w')
      ((first | exact ⟨by go_simp, by go_simp, BB⟩ | exact keep2 (by assumption) hbA | assumption))
      (first
        | (go_at_call 30; refine (size_any _ (by assumption) _).mono ?_; rintro e wA ⟨rfl, rfl⟩)
        | (go_at_call 49; refine (rgap_any _ _ (by assumption) (by assumption) _).mono ?_; rintro e wA ⟨rfl, rfl⟩)
        | (go_at_call 48; refine (rtimes_any _ _ (by assumption) (by assumption) _).mono ?_; rintro e wA ⟨rfl, hbA⟩)
        | (go_at_call 47; refine (less_two (mag x * n) (gap r x * d) y0 y1 x0 x1 _).mono ?_; rintro e wA ⟨rfl, hbA⟩))
  go_wp2_with fail
  refine bodyPost_ret (v := .bool (!decide (mag x * n < gap r x * d))) (by simp [results, Tryd.results20, go_sem]) rfl ⟨by rw [E.out], ?_⟩
  exact keep2_bel (B := w.heap.size) (by assumption)

end Go.Proofs.YtojincgbnjkegaaDoor
/-
  How a configuration and a pair of ends that come in by value are opened, and shut again.
-/
namespace Go.Proofs.YtojincgbnjkegaaDoor
set_option linter.unusedVariables false
set_option linter.unusedSimpArgs false
set_option maxRecDepth 100000
open Go.ChangeShapes Go.WideShapes Go.ChangeAt Go.RowKit Go.Joins

theorem cellsCfg : Tryd.prog.cellsOf 52 = 2 := by kernel_rfl
theorem cfg_reads {H : Type} {enc : TypeId × Value → H} {a b : Int} (wa : (Lit.int .i64 a).wf = true) (wb : (Lit.int .u64 b).wf = true) (W' : World) (sp : Nat → Bool) :
    DataW.Trod enc Tryd.prog W' 0 sp true 52 (.agg #[.int .i64 a, .int .u64 b]) (.agg [.lit (.int .i64 a), .lit (.int .u64 b)]) [] :=
  shut_agg2 (y0 := (.lit (.int .i64 a), [])) (y1 := (.lit (.int .u64 b), [])) Tryd.underlying52 (by kernel_rfl) cellsCfg ⟨1, by simp [DataW.trod, Tryd.underlying3, wa]⟩ ⟨1, by simp [DataW.trod, Tryd.underlying23, wb]⟩
theorem cfg_opens {H : Type} {enc : TypeId × Value → H} {W : World} {r : Reach} {b0 : Nat} {sp : Nat → Bool} {v : Value} {d : DataW H} {p : List MemPlace} (hv : Value.okWide Tryd.prog W r b0 52 v) (h : DataW.Trod enc Tryd.prog W 0 sp true 52 v d p) :
    ∃ a b : Int, v = .agg #[.int .i64 a, .int .u64 b] ∧ d = .agg [.lit (.int .i64 a), .lit (.int .u64 b)] ∧ p = [] ∧ (Lit.int .i64 a).wf = true ∧ (Lit.int .u64 b).wf = true := by
  obtain ⟨c0, c1, y0, y1, m, rfl, rfl, rfl, hy0, hy1⟩ := open_agg2 Tryd.underlying52 (by kernel_rfl) cellsCfg hv h
  obtain ⟨a, e0, rfl, wa⟩ := DataW.trod_int Tryd.underlying3 hy0
  obtain ⟨b, e1, rfl, wb⟩ := DataW.trod_int Tryd.underlying23 hy1
  simp at e0 e1
  subst e0 e1
  exact ⟨a, b, rfl, rfl, rfl, wa, wb⟩
theorem cellsEnds : Tryd.prog.cellsOf 71 = 2 := by kernel_rfl
theorem cellsEnd : Tryd.prog.cellsOf 2 = 1 := by kernel_rfl
theorem ends_reads {H : Type} {enc : TypeId × Value → H} {a b : Int} (wa : (Lit.int .i64 a).wf = true) (wb : (Lit.int .i64 b).wf = true) (W' : World) (sp : Nat → Bool) :
    DataW.Trod enc Tryd.prog W' 0 sp true 71 (.agg #[.int .i64 a, .int .i64 b]) (.agg [.lit (.int .i64 a), .lit (.int .i64 b)]) [] :=
  ⟨2, by simp [DataW.trod, Value.cells, Tryd.underlying71, Tryd.underlying2, cellsEnds, cellsEnd, wa, wb, show List.range 2 = [0, 1] from rfl]⟩
theorem ends_opens {H : Type} {enc : TypeId × Value → H} {W : World} {r : Reach} {b0 : Nat} {sp : Nat → Bool} {v : Value} {d : DataW H} {p : List MemPlace} (hv : Value.okWide Tryd.prog W r b0 71 v) (h : DataW.Trod enc Tryd.prog W 0 sp true 71 v d p) :
    ∃ a b : Int, v = .agg #[.int .i64 a, .int .i64 b] ∧ d = .agg [.lit (.int .i64 a), .lit (.int .i64 b)] ∧ p = [] ∧ (Lit.int .i64 a).wf = true ∧ (Lit.int .i64 b).wf = true := by
  obtain ⟨cs, rfl, hsz, _⟩ : ∃ cs, v = .agg cs ∧ cs.size = Tryd.prog.cellsOf 71 ∧ Row.okWide Tryd.prog W r b0 71 cs := by simpa [Value.okWide, Tryd.underlying71] using hv
  obtain ⟨c0, c1, rfl⟩ := array2 (hsz.trans cellsEnds)
  obtain ⟨fuel, hf⟩ := h
  obtain ⟨xs, m, _, hx, _, hl, hel⟩ := DataW.trod_array Tryd.underlying71 hf
  match xs, hl with
  | [y0, y1], _ =>
    have k0 := hel 0 (by omega)
    have k1 := hel 1 (by omega)
    rw [cellsEnd] at k0 k1
    obtain ⟨a, e0, r0, wa⟩ := DataW.trod_int Tryd.underlying2 k0
    obtain ⟨b, e1, r1, wb⟩ := DataW.trod_int Tryd.underlying2 k1
    have g0 : [c0] = [.int .i64 a] := e0
    have g1 : [c1] = [.int .i64 b] := e1
    simp only [List.cons.injEq, and_true] at g0 g1
    subst g0 g1 r0 r1
    simp only [Prod.mk.injEq] at hx
    obtain ⟨rfl, rfl⟩ := hx
    exact ⟨a, b, rfl, rfl, rfl, wa, wb⟩
end Go.Proofs.YtojincgbnjkegaaDoor
