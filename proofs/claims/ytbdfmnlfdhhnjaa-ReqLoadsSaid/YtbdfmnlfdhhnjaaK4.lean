/-
  Texts joined, in build order: ReqcH, ReqcJ, ReqcK, ShelfS, CoinB, ReqcL, ReqcQ, ReqcN, CoinA, CoinX, ReqcX, Open, TupB, GwO, ReqAr, ReqB, ReqD, ReqS, ReqQ, ReqH.
-/
import Derived.Test.YtbdfmnlfdhhnjaaK3
import Derived.Lib.AppendZerosOnto
import Derived.Lib.SliceRun
import Derived.Lib.Walk
import Derived.Laws.OwnMore
import Derived.Shelf.SlSorted.Search
import Derived.Test.YtbdfmnlfdhhnjaaProg
import Derived.Deep.QuietTactic
import Derived.BigQuiet
import Derived.Deep.RegionHeld3
import Derived.Deep.RegionWith
import Derived.Laws.Shifts
import Derived.Test.YtbdfmnlfdhhnjaaRows
import Derived.WalkKit
import Derived.ProofKit
import Derived.OpenShut
import Derived.Lib.SmallJoins
/-
  The landed package req: Put.
-/
namespace Go.Proofs.Ytbdfmnlfdhhnjaa
set_option linter.unusedVariables false
set_option linter.unusedSimpArgs false
open Go.RowKit

/-- At block P lies a landed tower; S are its blocks. -/
def RqX (Tp : TapT) : RqT := fun w P S B word t e =>
  ∃ T low high hv R, RqRaw Tp w P T B word low high t.2 hv R ∧ lsI R = t.1 ∧ (∀ k, S k ↔ rgQ P T hv R k) ∧ goodQ B = true ∧ Word word ∧ TowI B t.1 ∧ endsQ (wtR t.1) low high = e
theorem ends_put {q x low high a b : Int} {c : Nat} {e : Int × Int × Bool} (h0 : 0 ≤ q) (hc : 0 < c) (he : endsQ q low high = e) (hr : reachV q low high x x = (a, b)) : endsQ (q + c) a b = addW e x := by
  subst he
  unfold endsQ addW reachV at *
  by_cases h : q = 0
  · rw [if_pos h] at hr ⊢
    obtain ⟨rfl, rfl⟩ := Prod.mk.inj hr
    rw [if_neg (show ¬ q + (c : Int) = 0 by omega)]
    rfl
  · rw [if_neg h] at hr ⊢
    obtain ⟨rfl, rfl⟩ := Prod.mk.inj hr
    rw [if_neg (show ¬ q + (c : Int) = 0 by omega)]
    show (min x low, max x high, true) = (min low x, max high x, true)
    rw [Int.min_comm, Int.max_comm]
theorem RqRaw.smalls {Tp : TapT} {w : World} {P T : Nat} {B word low high : Int} {u : Nat} {hv : Value} {R : List RowI} {L : List (List Int)} (h : RqRaw Tp w P T B word low high u hv R) (hL : lsI R = L) (hi : TowI B L) (h64 : B ≤ 64) : R ≠ [] ∧ R.length ≤ 17 ∧ (∀ r, r ∈ R → r.l.length ≤ 63) ∧ fuelR L ≤ 1088 := by
  subst hL
  obtain ⟨f1, f2⟩ := hi.fuel h64
  refine ⟨fun e => hi.ne (by rw [e]; rfl), by have := hi.few h64; rwa [ls_len] at this, fun r hr => f2 r.l (List.mem_map_of_mem hr), f1⟩

/-- What goes well leaves. -/
def WellQ (Tp : TapT) (w : World) (P : Nat) (S : Nat → Prop) (B word : Int) (t : Tow) (e : Int × Int × Bool) (r : Ending) (w' : World) : Prop :=
  ∃ S', r = .returned (.int .i64 0) ∧ RqX Tp w' P S' B word t e ∧ Keeps S w w' ∧ ∀ i, S' i → S i ∨ w.heap.size ≤ i
/-- A tower on its way to have so many values more. -/
def OnPutQ (Tp : TapT) (w : World) (P T : Nat) (B word a b : Int) (hv0 : Value) (R0 : List RowI) (t : Tow) (x : Int) (j : Nat) (wr : World) : Prop :=
  LeftQ Tp w P T B word hv0 R0 a b (playT B (coinB word) t (List.replicate j x)).2 (playT B (coinB word) t (List.replicate j x)).1 wr

set_option maxRecDepth 100000 in
set_option maxHeartbeats 4000000 in
theorem rq_put {Tp : TapT} (D : TapDoes Tp) (H : RowDoes) {w : World} {P : Nat} {S : Nat → Prop} {B word : Int} {t : Tow} {e : Int × Int × Bool} {x : Int} {c : Nat} (h : RqX Tp w P S B word t e) (hx : I64 x) (hc : 0 < c) (hc2 : c ≤ 1024) (hroom : wtR t.1 + c ≤ B * 1024) (hu : t.2 ≤ 1000000000) :
    Calls Try.prog 28 #[.pointer (some ⟨P, 0, none⟩), .int .i64 x, .int .u64 c] w fun r w' => WellQ Tp w P S B word (playT B (coinB word) t (List.replicate c x)) (addW e x) r w' := by
  obtain ⟨T, low, high, hv, R, hraw, hL, hS, hg, hw, hi, he⟩ := h
  obtain ⟨g4, g64, g0⟩ := goodQ_iff.1 hg
  obtain ⟨s1, s2, s3, s4⟩ := hraw.smalls hL hi g64
  obtain ⟨q, hq⟩ : ∃ q, wtR t.1 = q := ⟨_, rfl⟩
  have hq0 : 0 ≤ q := by rw [← hq]; exact hi.wt0
  rw [hq] at hroom he
  have hql : wtR (lsI R) = q := by rw [hL]; exact hq
  obtain ⟨a, b, hab⟩ : ∃ a b, reachV q low high x x = (a, b) := ⟨_, _, rfl⟩
  have HE := Lib.hid (ends_put hq0 hc he hab)
  have CR := Lib.hid (rq_room D hraw s1 (by omega) (fun r hr => by have := s3 r hr; omega) hql (by omega) g64 (c := c) (b := true) ⟨hq0, by omega⟩ ⟨by omega, by omega⟩ (by rw [decide_eq_true]; omega))
  have CE := Lib.hid (fun W (hb : Below w.heap.size w W) => rq_reach D (hraw.call D hb) s1 (by omega) (fun r hr => by have := s3 r hr; omega) hql hab)
  have HDD := Lib.hid D
  have HH := Lib.hid H
  have HI := Lib.hid hi
  have HG := Lib.hid hg
  have HW := Lib.hid hw
  have HS := Lib.hid hS
  have HX := Lib.hid hx
  have HL := Lib.hid hL
  have HQ := Lib.hid hq
  have HU := Lib.hid hu
  have HPL := Lib.hid (fun j (hj : j ≤ c) => hi.play g0 g4 g64 (coinB word) x j (by rw [hq]; omega))
  have HSW : Hid (TowI B t.1) := HI
  have n1 : ((c : Int) == 0) = false := by rw [beq_eq_false_iff_ne]; omega
  have n2 : ¬ (1024 : Int) < (c : Int) := by omega
  clear hraw hL hS hg hw hi he hql hab D H s1 s2 s3 s4 hq hu hx
  go_enter Try.func28, Try.ntmps28
  go_wp2_with fail
  with_reducible (refine CR.out.mono ?_)
  rintro e w2 ⟨rfl, hb2⟩
  have CE2 := Lib.hid (CE.out _ hb2)
  have HB2 := Lib.hid hb2
  clear CR CE hb2
  go_wp2_with fail
  with_reducible (refine CE2.out.mono ?_)
  rintro e w3 ⟨rfl, hr3, hk3⟩
  have HST : Hid (OnPutQ Tp w P T B word a b hv R t x 0 w3) := Lib.hid ⟨hv, R, hr3, HL.out, keepsQ_then (Keeps.of_below HB2.out) hk3 fun k _ hk => hk, fun k hk => Or.inl hk⟩
  clear CE2 hr3 hk3
  go_wp2_with fail
  go_loopw [22] (fun iv wr => ∃ (j : Nat), j ≤ c ∧ iv = .int .u64 j ∧ OnPutQ Tp w P T B word a b hv R t x j wr) (fun iv _ => c - (intOf iv).toNat)
  case atStart => exact ⟨0, Nat.zero_le _, rfl, HST.out⟩
  case round =>
    obtain ⟨j, hj, rfl, hon⟩ := hrel
    obtain ⟨i1, i2, i3⟩ := HPL.out j hj
    obtain ⟨hv1, R1, hr1, hl1, hk1, hb1⟩ := hon
    by_cases hlt : j < c
    · have kk : (j : Int) < c := by omega
      obtain ⟨u1, hu1⟩ : ∃ u1, (playT B (coinB word) t (List.replicate j x)).2 = u1 := ⟨_, rfl⟩
      obtain ⟨L1, hL1⟩ : ∃ L1, (playT B (coinB word) t (List.replicate j x)).1 = L1 := ⟨_, rfl⟩
      obtain ⟨p1, p2, p3, p4⟩ := i1.put g0 g4 g64 (coinB word) x (by rw [i2, HQ.out]; omega)
      have HT1 : Hid (playT B (coinB word) t (List.replicate (j + 1) x) = towS B (coinB word) (behR [x] L1, u1)) := Lib.hid (by rw [play_one, ← hu1, ← hL1]; rfl)
      rw [hu1] at hr1 i3
      rw [hL1] at hl1 p4 i1
      obtain ⟨s1, s2, s3, s4⟩ := hr1.smalls hl1 i1 g64
      have hal : Below wr.heap.size wr (wr.alloc (.cells #[.int .i64 x] 2)) := (Below.refl _ _).alloc (Nat.le_refl _) _
      have hr2 := hr1.call HDD.out hal
      have hbl := hr1.blocks HDD.out
      have hbn : Nums (wr.alloc (.cells #[.int .i64 x] 2)) (some ⟨wr.heap.size, 0, none⟩) [x] := one_num HX.out (by go_simp)
      have CL := Lib.hid (show Calls Try.prog 45 #[.pointer (some ⟨P, 0, none⟩), .int .i64 0, .slice (some ⟨wr.heap.size, 0, none⟩) 1 1] (wr.alloc (.cells #[.int .i64 x] 2)) _ from rq_lay HDD.out (h := 0) (cv := 1) hr2 s1 (by omega) (Nat.zero_le _) hbn rfl (by decide) (fun r hr => by have := s3 r hr; omega) fun a ha => by
        cases ha
        exact ⟨by simp, fun c => by have := hbl _ c; simp at this⟩)
      have HL1 := Lib.hid hl1
      have HP4 := Lib.hid p4
      have HU1 : Hid (u1 ≤ 2000000000) := Lib.hid (by have := HU.out; omega)
      have HK1 := Lib.hid hk1
      have HB1 := Lib.hid hb1
      have HAL := Lib.hid hal
      clear hu1 hL1 p1 p2 p3 p4 hr1 hl1 hk1 hb1 i1 i2 i3 s1 s2 s3 s4 hal hr2 hbl hbn
      go_wp2_with fail
      with_reducible (refine CL.out.mono ?_)
      rintro e w4 ⟨rfl, hv4, R4, hr4, hl4, hk4, hb4⟩
      have hl4' : lsI R4 = behR [x] L1 := by rw [hl4, HL1.out]; rfl
      have CS := Lib.hid (rq_settle HDD.out HH.out hr4 (fun e => beh_ne [x] L1 (by rw [← hl4', e]; rfl)) g0 g4 g64 HW.out HU1.out (by rw [hl4']; have := HP4.out; omega))
      rw [hl4', ← HT1.out] at CS
      have HK4 := Lib.hid (keepsQ_then HK1.out (keepsQ_then (Keeps.of_below (S := rgQ P T hv1 R1) HAL.out) hk4 fun k _ hk => hk) fun k hk hk2 => by
        rcases HB1.out k hk2 with h | h
        · exact h
        · omega)
      have HB4 : Hid (∀ k, rgQ P T hv4 R4 k → rgQ P T hv R k ∨ w.heap.size ≤ k) := Lib.hid fun k hk => by
        rcases hb4 k hk with h | h
        · exact HB1.out k h
        · have h1 := HAL.out.size
          have h2 := HK1.out.size
          exact Or.inr (by omega)
      clear hr4 hl4 hk4 hb4 hl4' CL
      go_wp2_with fail
      with_reducible (refine CS.out.mono ?_)
      rintro e w5 ⟨rfl, hL5⟩
      have HL5 : Hid (OnPutQ Tp w P T B word a b hv R t x (j + 1) w5) := Lib.hid (hL5.after HK4.out HB4.out)
      have nn : IntKind.u64.wrap ((j : Int) + 1) = (j : Int) + 1 := by rw [IntKind.wrap_u64]; omega
      clear hL5
      go_wp2_with fail
      go_roundw
      case rel => exact ⟨j + 1, by omega, by first | rfl | go_num, HL5.out⟩
      case measure => simp [intOf]; omega
    · have kk : ¬ (j : Int) < c := by omega
      obtain rfl : j = c := by omega
      have HF : Hid (WellQ Tp w P S B word (playT B (coinB word) t (List.replicate j x)) (addW e x) (.returned (.int .i64 0)) wr) := Lib.hid ⟨rgQ P T hv1 R1, rfl, ⟨T, a, b, hv1, R1, hr1, hl1, fun k => Iff.rfl, HG.out, HW.out, i1, by rw [i2, HQ.out]; exact HE.out⟩, keepsQ_then (Keeps.refl S w) hk1 fun i _ hi => (HS.out i).2 hi, fun i hi => (hb1 i hi).imp (fun h => (HS.out i).2 h) id⟩
      clear hr1 hl1 hk1 hb1 i1 i2 i3
      go_wp2_with fail
      go_ret
      exact HF.out

set_option maxHeartbeats 1000000 in
theorem rq_put_nil (w : World) (x c : Int) : Calls Try.prog 28 #[.pointer none, .int .i64 x, .int .u64 c] w fun r w' => r = .returned (.int .i64 2) ∧ Below w.heap.size w w' := by
  go_enter Try.func28, Try.ntmps28
  go_wp2_with fail
  go_ret
  exact ⟨rfl, Below.refl _ _⟩
theorem rq_put_zero (w : World) (P : Nat) (x : Int) : Calls Try.prog 28 #[.pointer (some ⟨P, 0, none⟩), .int .i64 x, .int .u64 0] w fun r w' => r = .returned (.int .i64 1) ∧ Below w.heap.size w w' := by
  go_enter Try.func28, Try.ntmps28
  go_wp2_with fail
  go_ret
  exact ⟨rfl, Below.refl _ _⟩
theorem rq_put_long (w : World) (P : Nat) (x c : Int) (hc : 1024 < c) : Calls Try.prog 28 #[.pointer (some ⟨P, 0, none⟩), .int .i64 x, .int .u64 c] w fun r w' => r = .returned (.int .i64 3) ∧ Below w.heap.size w w' := by
  have n1 : (c == 0) = false := by rw [beq_eq_false_iff_ne]; omega
  go_enter Try.func28, Try.ntmps28
  go_wp2_with fail
  go_ret
  exact ⟨rfl, Below.refl _ _⟩
theorem rq_put_full {Tp : TapT} (D : TapDoes Tp) {w : World} {P : Nat} {S : Nat → Prop} {B word : Int} {t : Tow} {e : Int × Int × Bool} {x c : Int} (h : RqX Tp w P S B word t e) (hc : 0 < c) (hc2 : c ≤ 1024) (hroom : B * 1024 < wtR t.1 + c) :
    Calls Try.prog 28 #[.pointer (some ⟨P, 0, none⟩), .int .i64 x, .int .u64 c] w fun r w' => r = .returned (.int .i64 6) ∧ Below w.heap.size w w' := by
  obtain ⟨T, low, high, hv, R, hraw, hL, hS, hg, hw, hi, he⟩ := h
  obtain ⟨g4, g64, g0⟩ := goodQ_iff.1 hg
  obtain ⟨s1, s2, s3, s4⟩ := hraw.smalls hL hi g64
  obtain ⟨q, hq⟩ : ∃ q, wtR t.1 = q := ⟨_, rfl⟩
  have hq0 : 0 ≤ q := by rw [← hq]; exact hi.wt0
  have hq1 : q ≤ B * 1024 := by rw [← hq]; exact hi.room
  rw [hq] at hroom
  have CR := Lib.hid (rq_room D hraw s1 (by omega) (fun r hr => by have := s3 r hr; omega) (by rw [hL]; exact hq) (by omega) g64 (c := c) (b := false) ⟨hq0, by omega⟩ ⟨by omega, by omega⟩ (by apply decide_eq_false; omega))
  have n1 : (c == 0) = false := by rw [beq_eq_false_iff_ne]; omega
  have n2 : ¬ 1024 < c := by omega
  clear hraw hL hS hg hw hi he s1 s2 s3 s4 hq
  go_enter Try.func28, Try.ntmps28
  go_wp2_with fail
  with_reducible (refine CR.out.mono ?_)
  rintro e w2 ⟨rfl, hb2⟩
  have HB2 := Lib.hid hb2
  clear CR hb2
  go_wp2_with fail
  go_ret
  exact ⟨rfl, HB2.out⟩
end Go.Proofs.Ytbdfmnlfdhhnjaa

/-
  The landed package req: Join.
-/
namespace Go.Proofs.Ytbdfmnlfdhhnjaa
set_option linter.unusedVariables false
set_option linter.unusedSimpArgs false
open Go.RowKit

theorem LaidQ.keep {w w' : World} {base : Nat} {v : Value} {C : List RowI} {S : Nat → Prop} (h : LaidQ w base v C) (hk : Keeps S w w') (hS : ∀ k, base ≤ k → ¬ S k) : LaidQ w' base v C := by
  refine ⟨⟨h.head.1, ?_⟩, fun r hr => (h.row r hr).at_ fun a ha => hk.block _ ((h.row r hr).lt a ha) (hS _ (h.far r hr a ha).1), h.far, h.apart⟩
  rcases h.head.2 with hn | ⟨g, cap, cur, rfl, hb, hgg, rest⟩
  · exact .inl hn
  · exact .inr ⟨g, cap, cur, rfl, hb, (hk.block g (lt_of_block hgg) (hS g hb)).trans hgg, rest⟩
theorem RqRaw.keep {Tp : TapT} (D : TapDoes Tp) {w w' : World} {P T : Nat} {B word low high : Int} {u : Nat} {hv : Value} {R : List RowI} {S : Nat → Prop} (h : RqRaw Tp w P T B word low high u hv R) (hk : Keeps S w w') (hS : ∀ k, rgQ P T hv R k → ¬ S k) : RqRaw Tp w' P T B word low high u hv R :=
  h.at_ D fun k hk' => hk.block k (h.blocks D k hk') (hS k hk')
theorem ends_join {q q' low high low' high' a b : Int} {e f : Int × Int × Bool} (h0 : 0 ≤ q) (h1 : 0 < q') (he : endsQ q low high = e) (hf : endsQ q' low' high' = f) (hr : reachV q low high low' high' = (a, b)) : endsQ (q + q') a b = joinW e f := by
  subst he hf
  unfold endsQ joinW reachV at *
  rw [if_neg (show ¬ q' = 0 by omega), if_neg (show ¬ q + q' = 0 by omega)]
  by_cases h : q = 0
  · rw [if_pos h] at hr ⊢
    obtain ⟨rfl, rfl⟩ := Prod.mk.inj hr
    rfl
  · rw [if_neg h] at hr ⊢
    obtain ⟨rfl, rfl⟩ := Prod.mk.inj hr
    show (min low' low, max high' high, true) = (min low low', max high high', true)
    rw [Int.min_comm, Int.max_comm]

set_option maxHeartbeats 1000000 in
theorem rq_join_nil (w : World) (a : Value) (ha : a = .pointer none ∨ ∃ P, a = .pointer (some ⟨P, 0, none⟩)) : Calls Try.prog 24 #[a, .pointer none] w fun r w' => r = .returned (.int .i64 2) ∧ Below w.heap.size w w' := by
  rcases ha with rfl | ⟨P, rfl⟩
  · go_enter Try.func24, Try.ntmps24
    go_wp2_with fail
    go_ret
    exact ⟨rfl, Below.refl _ _⟩
  · go_enter Try.func24, Try.ntmps24
    go_wp2_with fail
    go_ret
    exact ⟨rfl, Below.refl _ _⟩

set_option maxHeartbeats 1000000 in
theorem rq_join_match {Tp : TapT} {w : World} {P P' : Nat} {S S' : Nat → Prop} {B B' word word' : Int} {t t' : Tow} {e e' : Int × Int × Bool} (h : RqX Tp w P S B word t e) (h' : RqX Tp w P' S' B' word' t' e') (hne : B ≠ B') : Calls Try.prog 24 #[.pointer (some ⟨P, 0, none⟩), .pointer (some ⟨P', 0, none⟩)] w fun r w' => r = .returned (.int .i64 8) ∧ Below w.heap.size w w' := by
  obtain ⟨T, low, high, hv, R, hraw, _⟩ := h
  obtain ⟨T', low', high', hv', R', hraw', _⟩ := h'
  have c0 := hraw.c0
  have d0 := hraw'.c0
  have n1 : (B != B') = true := by simp; exact hne
  clear hraw hraw' hne
  go_enter Try.func24, Try.ntmps24
  go_wp2_with fail
  go_quiet (fail)
  rename_i nq
  go_wp2_with fail
  go_ret
  exact ⟨rfl, below_drewN (Below.refl _ _) nq⟩

set_option maxRecDepth 100000 in
set_option maxHeartbeats 4000000 in
theorem rq_join {Tp : TapT} (D : TapDoes Tp) (H : RowDoes) {w : World} {P P' : Nat} {S S' : Nat → Prop} {B word word' : Int} {t t' : Tow} {e e' : Int × Int × Bool} (h : RqX Tp w P S B word t e) (h' : RqX Tp w P' S' B word' t' e') (hd : ∀ i, S i → ¬ S' i) (hroom : wtR t.1 + wtR t'.1 ≤ B * 1024) (hu : t.2 ≤ 1000000000) :
    Calls Try.prog 24 #[.pointer (some ⟨P, 0, none⟩), .pointer (some ⟨P', 0, none⟩)] w fun r w' => WellQ Tp w P S B word (jointT B (coinB word) t t') (joinW e e') r w' := by
  obtain ⟨T, low, high, hv, R, hraw, hL, hS, hg, hw, hi, he⟩ := h
  obtain ⟨T', low', high', hv', R', hraw', hL', hS', _, hw', hi', he'⟩ := h'
  obtain ⟨g4, g64, g0⟩ := goodQ_iff.1 hg
  obtain ⟨s1, s2, s3, s4⟩ := hraw.smalls hL hi g64
  obtain ⟨s1', s2', s3', s4'⟩ := hraw'.smalls hL' hi' g64
  obtain ⟨q, hq⟩ : ∃ q, wtR t.1 = q := ⟨_, rfl⟩
  obtain ⟨q', hq'⟩ : ∃ q', wtR t'.1 = q' := ⟨_, rfl⟩
  have hq0 : 0 ≤ q := by rw [← hq]; exact hi.wt0
  have hq0' : 0 ≤ q' := by rw [← hq']; exact hi'.wt0
  rw [hq] at hroom he
  rw [hq'] at hroom he'
  have hql : wtR (lsI R) = q := by rw [hL]; exact hq
  have hql' : wtR (lsI R') = q' := by rw [hL']; exact hq'
  have c0 := hraw.c0
  have d0 := hraw'.c0
  have n1 : (B != B) = false := by simp
  by_cases hz : q' = 0
  · have CE := Lib.hid (fun W (hb : Below w.heap.size w W) => rq_ends (hraw'.call D hb) s1' (by omega) (fun r hr => by have := s3' r hr; omega) hql' (show endsQ q' low' high' = (0, 0, false) by unfold endsQ; rw [if_pos hz]))
    have ejt : jointT B (coinB word) t t' = t := by unfold jointT; rw [if_pos (by rw [hq', hz])]
    have eje : joinW e e' = e := by
      rw [← he']
      unfold endsQ joinW
      rw [if_pos hz]; rfl
    rw [ejt, eje]
    have HF : Hid (∀ w', Below w.heap.size w w' → WellQ Tp w P S B word t e (.returned (.int .i64 0)) w') := Lib.hid fun w' hb => ⟨S, rfl, ⟨T, low, high, hv, R, hraw.call D hb, hL, hS, hg, hw, hi, by rw [hq]; exact he⟩, Keeps.of_below hb, fun i hi => Or.inl hi⟩
    clear ejt eje hraw hraw' hL hL' hS hS' hg hw hw' hi hi' he he' hql hql' D H s1 s2 s3 s4 s1' s2' s3' s4' hq hq' hu hd
    go_enter Try.func24, Try.ntmps24
    go_wp2_with fail
    go_quiet (fail)
    rename_i nq
    have CE2 := Lib.hid (CE.out _ (below_drewN (Below.refl _ _) nq))
    have HB1 : Hid (Below w.heap.size w (w.drewN nq)) := Lib.hid (below_drewN (Below.refl _ _) nq)
    go_wp2_with fail
    with_reducible (refine CE2.out.mono ?_)
    rintro e w2 ⟨rfl, hb2⟩
    have HF3 := Lib.hid (HF.out _ (HB1.out.trans (hb2.mono HB1.out.size)))
    clear hb2 CE CE2
    go_wp2_with fail
    go_ret
    exact HF3.out
  · have hq1 : 0 < q' := by omega
    obtain ⟨a, b, hab⟩ : ∃ a b, reachV q low high low' high' = (a, b) := ⟨_, _, rfl⟩
    have hdd : ∀ k, rgQ P T hv R k → ¬ rgQ P' T' hv' R' k := fun k h1 h2 => hd k ((hS k).2 h1) ((hS' k).2 h2)
    have CE := Lib.hid (fun W (hb : Below w.heap.size w W) => rq_ends (hraw'.call D hb) s1' (by omega) (fun r hr => by have := s3' r hr; omega) hql' (show endsQ q' low' high' = (low', high', true) by unfold endsQ; rw [if_neg hz]))
    have CT := Lib.hid (fun W (hb : Below w.heap.size w W) => rq_tot (hraw'.call D hb) s1' (by omega) (fun r hr => by have := s3' r hr; omega) hql')
    have CR := Lib.hid (fun W (hb : Below w.heap.size w W) => rq_room D (hraw.call D hb) s1 (by omega) (fun r hr => by have := s3 r hr; omega) hql (by omega) g64 (c := q') (b := true) ⟨hq0, by omega⟩ ⟨hq0', by omega⟩ (by rw [decide_eq_true]; omega))
    have CC := Lib.hid (fun W (hb : Below w.heap.size w W) => rq_reach D (hraw.call D hb) s1 (by omega) (fun r hr => by have := s3 r hr; omega) hql hab)
    have CW := Lib.hid (fun W (hk : Keeps (rgQ P T hv R) w W) => rq_rows (hraw'.keep D hk fun k hk2 h1 => hdd k h1 hk2) s1' (by omega) (fun r hr => by have := s3' r hr; omega))
    have HBL := Lib.hid (hraw.blocks D)
    have HJ : Hid (jointT B (coinB word) t t' = towS B (coinB word) (addR t.1 t'.1, t.2)) := Lib.hid (by unfold jointT; rw [if_neg (by rw [hq']; exact hz)]; rfl)
    have HE := Lib.hid (ends_join hq0 hq1 he he' hab)
    have HDD := Lib.hid D
    have HH := Lib.hid H
    have HI := Lib.hid hi
    have HI' := Lib.hid hi'
    have HG := Lib.hid hg
    have HW := Lib.hid hw
    have HS := Lib.hid hS
    have HL := Lib.hid hL
    have HL' := Lib.hid hL'
    have HQ := Lib.hid hq
    have HQ' := Lib.hid hq'
    have HU := Lib.hid hu
    have HRM := Lib.hid hroom
    have HRL : Hid (R'.length = t'.1.length) := Lib.hid (by rw [← hL', ls_len])
    clear hraw hraw' hL hL' hS hS' hg hw hw' hi hi' he he' hql hql' D H s1 s2 s3 s4 s1' s2' s3' s4' hq hq' hu hd hdd hab hq1 hroom
    go_enter Try.func24, Try.ntmps24
    go_wp2_with fail
    go_quiet (fail)
    rename_i nq
    have hb1 : Below w.heap.size w (w.drewN nq) := below_drewN (Below.refl _ _) nq
    generalize w.drewN nq = w1 at *
    have CE2 := Lib.hid (CE.out _ hb1)
    have HB1 := Lib.hid hb1
    clear hb1
    go_wp2_with fail
    with_reducible (refine CE2.out.mono ?_)
    rintro e w2 ⟨rfl, hb2⟩
    have HB2 := Lib.hid (HB1.out.trans (hb2.mono HB1.out.size))
    have CT2 := Lib.hid (CT.out _ HB2.out)
    have CR2 := Lib.hid (CR.out _ HB2.out)
    clear hb2 CE CE2 c0 d0 CT CR
    go_wp2_with fail
    with_reducible (refine CT2.out.mono ?_)
    rintro e w3 ⟨rfl, rfl⟩
    go_wp2_with fail
    with_reducible (refine CR2.out.mono ?_)
    rintro e w3 ⟨rfl, hb3⟩
    have HB3 := Lib.hid (HB2.out.trans (hb3.mono HB2.out.size))
    have CC3 := Lib.hid (CC.out _ HB3.out)
    clear hb3 CT2 CR2 CC
    go_wp2_with fail
    with_reducible (refine CC3.out.mono ?_)
    rintro e w4 ⟨rfl, hr4, hk4⟩
    have HK4 := Lib.hid (keepsQ_then (Keeps.of_below HB3.out) hk4 fun k _ hk => hk)
    have HR4 := Lib.hid hr4
    have CW4 := Lib.hid (CW.out _ HK4.out)
    clear hr4 hk4 CC3 CW
    go_wp2_with fail
    with_reducible (refine CW4.out.mono ?_)
    rintro e w5 ⟨g5, C5, rfl, hl5, hls5, hC5, hb5⟩
    obtain ⟨n', hn'⟩ : ∃ n', R'.length = n' := ⟨_, rfl⟩
    rw [hn'] at hl5 hC5 ⊢
    have HN' : Hid (n' = t'.1.length) := Lib.hid (by rw [← hn']; exact HRL.out)
    have HR5 := Lib.hid (HR4.out.call HDD.out hb5)
    have HC5 := Lib.hid hC5
    have HLS := Lib.hid (show lsI C5 = t'.1 by rw [hls5]; exact HL'.out)
    have HLD := Lib.hid hl5
    have HZ5 := Lib.hid hb5.size
    have HBL4 := Lib.hid (HR4.out.blocks HDD.out)
    have HK5 := Lib.hid (keepsQ_then HK4.out (Keeps.of_below (S := fun _ => False) hb5) fun k _ hk => hk.elim)
    have n2 : n' ≤ 17 := by rw [HN'.out]; exact HI'.out.few g64
    clear hl5 hls5 hC5 hb5 CW4 hn'
    go_wp2_with fail
    go_loopw [47] (fun iv wr => ∃ (j : Nat) (hv1 : Value) (R1 : List RowI), j ≤ n' ∧ iv = .int .i64 j ∧ RqRaw Tp wr P T B word a b t.2 hv1 R1 ∧ lsI R1 = addR t.1 (t'.1.take j) ∧ Keeps (rgQ P T hv R) w5 wr ∧ ∀ k, rgQ P T hv1 R1 k → rgQ P T hv R k ∨ w5.heap.size ≤ k) (fun iv _ => n' - (intOf iv).toNat)
    case atStart => exact ⟨0, hv, R, Nat.zero_le _, rfl, HR5.out, by rw [List.take_zero, add21_nil]; exact HL.out, Keeps.refl _ _, fun k hk => Or.inl hk⟩
    case round =>
      obtain ⟨j, hv1, R1, hj, rfl, hr1, hl1, hk1, hb1⟩ := hrel
      have hsm := add_take_small HI.out HI'.out g64 j
      by_cases hlt : j < n'
      · have kk : (j : Int) < n' := by omega
        obtain ⟨r, hr⟩ : ∃ r, C5[j]? = some r := ⟨_, List.getElem?_eq_getElem (by rw [HC5.out]; exact hlt)⟩
        have hlr := ls_at hr
        have hLD := HLD.out.keep hk1 fun k hk h1 => by have := HBL4.out k h1; omega
        have hrow := (hLD.row _ (List.mem_of_getElem? hr)).nums
        have hfar := hLD.far _ (List.mem_of_getElem? hr)
        have hrlt := (hLD.row _ (List.mem_of_getElem? hr)).lt
        have hrlt5 := (HLD.out.row _ (List.mem_of_getElem? hr)).lt
        have c0 : wr.cell? ⟨g5, j, none⟩ = some r.v := hLD.head.at_ HC5.out hr
        obtain ⟨A', L, k⟩ := r
        simp only at hlr hrow hfar hrlt hrlt5
        obtain ⟨l, hle⟩ : ∃ l, L.length = l := ⟨_, rfl⟩
        rw [show (⟨A', L, k⟩ : RowI).v = .slice A' l k by unfold RowI.v; rw [hle]] at c0
        rw [HLS.out] at hlr
        have hl63 : l ≤ 63 := by rw [← hle]; exact (HI'.out.fuel g64).2 L (List.mem_of_getElem? hlr)
        have hlay := add_take_lay (R := t.1) hlr HI.out.ne
        have hne1 : R1 ≠ [] := fun e => by
          have h1 := add21_len t.1 (t'.1.take j)
          rw [← hl1, e] at h1
          have h2 := HI.out.ne
          have h3 := List.length_pos_iff.2 h2
          simp [lsI] at h1
          omega
        have hlen1 : R1.length = max t.1.length j := by
          have h1 := add21_len t.1 (t'.1.take j)
          rw [← hl1, ls_len, List.length_take] at h1
          have := HN'.out
          omega
        have CL := Lib.hid (rq_lay HDD.out (h := j) (cv := k) hr1 hne1 (by have := HI.out.few g64; omega) (by omega) hrow hle (by omega) (fun r hr => by
          have h1 := mem_fuel (R := lsI R1) (r := r.l) (List.mem_map_of_mem hr)
          rw [hl1] at h1
          omega) fun a' ha' => ⟨hrlt a' ha', fun c => by
          have h1 := (hfar a' ha').1
          have h2 := hrlt5 a' ha'
          rcases hb1 _ c with h3 | h3
          · have := HBL4.out _ h3; omega
          · omega⟩)
        rw [hl1, hlay] at CL
        have HK1 := Lib.hid hk1
        have HB1' := Lib.hid hb1
        have HG5 := Lib.hid (hLD.head.lt g5 rfl).2
        clear hr hlr hrow hfar hrlt hrlt5 hle hlay hne1 hlen1 hr1 hl1 hk1 hb1 hLD
        go_wp2_with fail
        with_reducible (refine CL.out.mono ?_)
        rintro e w6 ⟨rfl, hL6⟩
        obtain ⟨hv6, R6, hr6, hl6, hk6, hb6⟩ := hL6.after HK1.out HB1'.out
        have HR6 := Lib.hid hr6
        have HL6 := Lib.hid hl6
        have HK6 := Lib.hid hk6
        have HB6 := Lib.hid hb6
        clear hL6 hr6 hl6 hk6 hb6 CL
        go_wp2_with fail
        go_roundw
        case rel => exact ⟨j + 1, hv6, R6, by omega, by go_num, HR6.out, HL6.out, HK6.out, HB6.out⟩
        case measure => simp [intOf]; omega
      · have kk : ¬ (j : Int) < n' := by omega
        obtain rfl : j = n' := by omega
        rw [List.take_of_length_le (by rw [HN'.out]; exact Nat.le_refl _)] at hl1 hsm
        obtain ⟨a1, a2, a3⟩ := HI.out.add HI'.out
        obtain ⟨f1, f2, f3⟩ := towI_settle g0 g4 a1 a2 (by rw [a3, HQ.out, HQ'.out]; exact HRM.out) (coinB word) t.2
        have CS := Lib.hid (rq_settle HDD.out HH.out hr1 (fun e => a1 (by rw [← hl1, e]; rfl)) g0 g4 g64 HW.out (by have := HU.out; omega) (by rw [hl1]; omega))
        rw [hl1, ← HJ.out] at CS
        rw [← HJ.out] at f1 f2
        have HF1 := Lib.hid f1
        have HF2 : Hid (endsQ (wtR (jointT B (coinB word) t t').1) a b = joinW e e') := Lib.hid (by rw [f2, a3, HQ.out, HQ'.out]; exact HE.out)
        have HK6 := Lib.hid (keepsQ_then HK5.out hk1 fun k _ hk => hk)
        have HB6 : Hid (∀ k, rgQ P T hv1 R1 k → rgQ P T hv R k ∨ w.heap.size ≤ k) := Lib.hid fun k hk => (hb1 k hk).imp id fun h => by
          have := HK5.out.size
          omega
        clear hr1 hl1 hk1 hb1 a1 a2 a3 f1 f2 f3 hsm
        go_wp2_with fail
        with_reducible (refine CS.out.mono ?_)
        rintro e w7 ⟨rfl, hL7⟩
        obtain ⟨hv7, R7, hr7, hl7, hk7, hb7⟩ := hL7.after HK6.out HB6.out
        have HF : Hid (WellQ Tp w P S B word (jointT B (coinB word) t t') (joinW e e') (.returned (.int .i64 0)) w7) := Lib.hid ⟨rgQ P T hv7 R7, rfl, ⟨T, a, b, hv7, R7, hr7, hl7, fun k => Iff.rfl, HG.out, HW.out, HF1.out, HF2.out⟩, keepsQ_then (Keeps.refl S w) hk7 fun i _ hi => (HS.out i).2 hi, fun i hi => (hb7 i hi).imp (fun h => (HS.out i).2 h) id⟩
        clear hL7 hr7 hl7 hk7 hb7
        go_wp2_with fail
        go_ret
        exact HF.out
end Go.Proofs.Ytbdfmnlfdhhnjaa

/-
  The landed package req: Rank; the library's slices.Concat at rows of whole numbers.
-/
namespace Go.Proofs.Ytbdfmnlfdhhnjaa
set_option linter.unusedVariables false
set_option linter.unusedSimpArgs false
open Go.RowKit

theorem flat_take_len (R : List (List Int)) (k : Nat) : ((R.take k).flatten).length ≤ (R.flatten).length := by
  have h : R.flatten = (R.take k).flatten ++ (R.drop k).flatten := by rw [← List.flatten_append, List.take_append_drop]
  rw [h, List.length_append]; omega


set_option maxRecDepth 100000 in
set_option maxHeartbeats 4000000 in
theorem rq_rank {Tp : TapT} {w : World} {P T : Nat} {B word low high : Int} {u : Nat} {hv : Value} {R : List RowI} {x q : Int} (h : RqRaw Tp w P T B word low high u hv R) (hne : R ≠ []) (hR : R.length ≤ 20) (hl : ∀ r, r ∈ R → r.l.length ≤ 20000) (hq : rankR x (lsI R) = q) :
    Calls Try.prog 19 #[.pointer (some ⟨P, 0, none⟩), .int .i64 x] w fun e w' => e = .returned (.int .u64 q) ∧ w = w' := by
  obtain ⟨g, cap, rfl, hg, hc, hN⟩ := h.rowsN hne
  have c2 := h.c2
  obtain ⟨n, hn⟩ : ∃ n, R.length = n := ⟨_, rfl⟩
  rw [hn] at c2 hR
  have HT := Lib.hid hN
  have HN := Lib.hid hn
  have HL := Lib.hid hl
  have HQ := Lib.hid hq
  have HTB : Hid (∀ j, j ≤ n → 0 ≤ rankR x ((lsI R).take j) ∧ rankR x ((lsI R).take j) ≤ 20000 * ((2 ^ j - 1 : Nat) : Int)) := Lib.hid fun j hj => by
    have h := rank_bd x 20000 (R := (lsI R).take j) fun r hr => by
      obtain ⟨q, hq, rfl⟩ := List.mem_map.1 (List.mem_of_mem_take hr)
      have := hl q hq
      omega
    rw [List.length_take, ls_len, hn, Nat.min_eq_left hj] at h
    exact h
  have HFIN : Hid ((lsI R).take n = lsI R) := Lib.hid (List.take_of_length_le (by rw [ls_len, hn]; exact Nat.le_refl _))
  clear h hne hl hq hN hn hc hg
  go_enter Try.func19, Try.ntmps19
  go_wp2_with fail
  go_loopw [5, 17] (fun sv iv wr => ∃ (j : Nat) (a : Int), j ≤ n ∧ iv = .int .i64 j ∧ sv = .int .u64 a ∧ a = rankR x ((lsI R).take j) ∧ w = wr) (fun _ iv _ => n - (intOf iv).toNat)
  case atStart => exact ⟨0, 0, Nat.zero_le _, rfl, rfl, rfl, rfl⟩
  case round =>
    obtain ⟨j, a, hj, rfl, rfl, ha, rfl⟩ := hrel
    have HA := Lib.hid ha
    have hbd := HTB.out j hj
    have hp20 : 2 ^ j ≤ 2 ^ 20 := Nat.pow_le_pow_right (by decide) (by omega)
    rw [← ha] at hbd
    have ha0 : 0 ≤ a ∧ a ≤ 20971520000 := by
      refine ⟨hbd.1, ?_⟩
      have h2 := hbd.2
      omega
    obtain ⟨a0, a1⟩ := ha0
    clear ha hbd
    by_cases hlt : j < n
    · have kk : (j : Int) < n := by omega
      obtain ⟨r, hr⟩ : ∃ r, R[j]? = some r := ⟨_, List.getElem?_eq_getElem (by rw [HN.out]; exact hlt)⟩
      obtain ⟨b, hb⟩ : ∃ b : Int, ((2 ^ j : Nat) : Int) = b := ⟨_, rfl⟩
      have b0 : 1 ≤ b ∧ b ≤ 1048576 := by
        have : 1 ≤ 2 ^ j := Nat.one_le_two_pow
        omega
      have CW := Lib.hid (fun W => rq_weight W j b (by omega) hb)
      have hrm := List.mem_of_getElem? hr
      have hll := HL.out _ hrm
      have HS := rank_take x (ls_at hr)
      have hnu := HT.out.each _ hrm
      obtain ⟨A', L, k⟩ := r
      obtain ⟨b', off, hgo, _, c0⟩ := HT.out.at_ j _ hr
      cases hgo
      simp only [Nat.zero_add] at c0 hll HS hnu
      obtain ⟨l, hle⟩ : ∃ l, L.length = l := ⟨_, rfl⟩
      rw [hle] at c0 hll
      rw [hb, ← HA.out] at HS
      have HS2 := Lib.hid HS
      have HNU := Lib.hid hnu
      have HLE := Lib.hid hle
      obtain ⟨b1, b2⟩ := b0
      have hbase := Lib.hid (fun i (hi : i ≤ l) => (show 0 ≤ b * upV (L.take i) x ∧ b * upV (L.take i) x ≤ 20971520000 from by
        have h1 := upV_bd (L.take i) x
        have h3 : ((L.take i).length : Int) ≤ 20000 := by rw [List.length_take]; omega
        refine ⟨Int.mul_nonneg (by omega) h1.1, ?_⟩
        have h2 := Int.mul_le_mul b2 (show upV (L.take i) x ≤ 20000 by omega) h1.1 (by decide)
        omega))
      clear hr hle hrm HS hb hp20 hnu
      go_wp2_with fail
      go_loopw [5, 24] (fun sv iv wr => ∃ (i : Nat) (s : Int), i ≤ l ∧ iv = .int .i64 i ∧ sv = .int .u64 s ∧ s = a + b * upV (L.take i) x ∧ w = wr) (fun _ iv _ => l - (intOf iv).toNat)
      case atStart => exact ⟨0, a, Nat.zero_le _, rfl, rfl, by rw [List.take_zero]; show a = a + b * 0; omega, rfl⟩
      case round =>
        obtain ⟨i, s, hi, rfl, rfl, hs, rfl⟩ := hrel
        have HSS := Lib.hid hs
        have hb3 := hbase.out i hi
        have s0 : 0 ≤ s ∧ s ≤ 41943040000 := by omega
        obtain ⟨s0, s1⟩ := s0
        clear hs hb3
        by_cases hlt2 : i < l
        · have kk2 : (i : Int) < l := by omega
          have hy := List.getElem?_eq_getElem (l := L) (i := i) (by rw [HLE.out]; exact hlt2)
          generalize L[i]'(by rw [HLE.out]; exact hlt2) = y at hy
          obtain ⟨ba, oa, rfl, _, k0⟩ := HNU.out.at_ i y hy
          have hst : upV (L.take (i + 1)) x = upV (L.take i) x + (if y ≤ x then 1 else 0) := by
            rw [take_one hy, upV_app]
            by_cases c : y ≤ x
            · rw [if_pos c]; unfold upV; simp [c]
            · rw [if_neg c]; unfold upV; simp [c]
          have HSTP := Lib.hid hst
          clear hy hst
          by_cases hyx : y ≤ x
          · have HN2 : Hid (s + b = a + b * upV (L.take (i + 1)) x) := Lib.hid (by rw [HSTP.out, if_pos hyx, HSS.out, Int.mul_add, Int.mul_one, Int.add_assoc])
            have wp2 : IntKind.u64.wrap (s + b) = s + b := by rw [IntKind.wrap_u64]; omega
            go_wp2_with fail
            with_reducible (refine (CW.out _).mono ?_)
            rintro e w2 ⟨rfl, rfl⟩
            go_wp2_with fail
            go_roundw
            case rel => exact ⟨i + 1, s + b, by omega, by go_num, by first | rfl | go_num, HN2.out, by first | rfl | trivial⟩
            case measure => simp [intOf]; omega
          · have HN2 : Hid (s = a + b * upV (L.take (i + 1)) x) := Lib.hid (by rw [HSTP.out, if_neg hyx, HSS.out, Int.add_zero])
            go_wp2_with fail
            go_roundw
            case rel => exact ⟨i + 1, s, by omega, by go_num, by first | rfl | go_num, HN2.out, by first | rfl | trivial⟩
            case measure => simp [intOf]; omega
        · have kk2 : ¬ (i : Int) < l := by omega
          obtain rfl : i = l := by omega
          have HN2 : Hid (s = rankR x ((lsI R).take (j + 1))) := Lib.hid (by rw [HS2.out, HSS.out, List.take_of_length_le (by rw [HLE.out]; exact Nat.le_refl _)])
          go_wp2_with fail
          go_roundw
          case rel => exact ⟨j + 1, s, by omega, by go_num, by first | rfl | go_num, HN2.out, by first | rfl | trivial⟩
          case measure => simp [intOf]; omega
    · have kk : ¬ (j : Int) < n := by omega
      obtain rfl : j = n := by omega
      have HF : Hid (q = a) := Lib.hid (by rw [HA.out, HFIN.out, HQ.out])
      go_wp2_with fail
      go_ret
      exact ⟨by rw [HF.out]; rfl, rfl⟩

set_option maxHeartbeats 1000000 in
theorem rq_rank_nil (w : World) (x : Int) : Calls Try.prog 19 #[.pointer none, .int .i64 x] w fun e w' => e = .returned (.int .u64 0) ∧ Below w.heap.size w w' := by
  go_enter Try.func19, Try.ntmps19
  go_wp2_with fail
  go_ret
  exact ⟨rfl, Below.refl _ _⟩

set_option maxRecDepth 100000 in
set_option maxHeartbeats 1000000 in
/-- slices.Grow of a nil row. -/
theorem grow_nil64 (w : World) (n : Nat) (hn : n ≤ 1000000) :
    Calls Try.prog 78 #[.slice none 0 0, .int .i64 n] w fun e w' => ∃ v, e = .returned v ∧ OwnN w' w.heap.size v [] ∧ Below w.heap.size w w' := by
  by_cases h0 : n = 0
  · subst h0
    go_enter Try.func78, Try.ntmps78
    go_wp2_with fail
    go_ret
    exact ⟨_, rfl, OwnN.nil _ _, Below.refl _ _⟩
  · obtain ⟨i0, hi, hz0, hz1, hz2⟩ := info_parts Try.infoInt18
    have hold : (Builtin.firstCells i0.size 0 (.slice none 0 0)).run Try.prog w.drew = .ok ([] : List Value).toArray w.drew := run_firstCells_none w.drew i0.size 0 0 0
    have hrz : ∀ ty, (Builtin.append_ #[62, 3] ty #[.slice none 0 0, .int .i64 (n : Int)]).run Try.prog w =
        .ok (.slice (some ⟨w.heap.size, 0, none⟩) n (grownCap w n 0 2)) (w.drew.alloc (.cells (([] : List Value).toArray ++ Builtin.zeroCells (Value.int .i64 0).cells n ++ Builtin.zeroCells (Value.int .i64 0).cells (grownCap w n 0 2 - n)) 2)) := fun ty => by
      have h := Lib.run_append_grow_zeros w 62 3 ty 2 i0 _ .i64 .i64 Try.underlying62 Try.underlying3 hi hz0 none 0 0 [] hold n (by omega) (by omega) (by omega) (by omega)
        (by rw [hz2]; omega) (by rw [hz2, Nat.zero_add]; exact growslice_fits (by omega) (by omega))
      rw [Nat.zero_add] at h
      exact h
    have hGn : n ≤ grownCap w n 0 2 := grownCap_ge w _ _ _
    have hGm := grownCap_le_maxLen w n 0 2 (by unfold maxLen; omega)
    obtain ⟨G, hG⟩ : ∃ G, G = grownCap w n 0 2 := ⟨_, rfl⟩
    rw [← hG] at hrz hGn hGm
    have hG63 : G ≤ 9223372036854775807 := by unfold maxLen at hGm; omega
    obtain ⟨cur, hcur⟩ : ∃ cur, (([] : List Value).toArray ++ Builtin.zeroCells (Value.int .i64 0).cells n ++ Builtin.zeroCells (Value.int .i64 0).cells (G - n)) = cur := ⟨_, rfl⟩
    have hsz : cur.size = G * 1 := by
      rw [← hcur]
      simp [Builtin.zeroCells, Value.cells]; omega
    rw [hcur] at hrz
    have HO : Hid (OwnN (w.drew.alloc (.cells cur 2)) w.heap.size (.slice (some ⟨w.heap.size, 0, none⟩) 0 G) []) := Lib.hid (World.ownsRow_made (w := w.drew) cur G (Nat.le_refl _) hGm hsz)
    have n0 : ¬ ((n : Int) < 0) := by omega
    have n1 : 0 < (n : Int) := by omega
    have HRZ := Lib.hid hrz
    clear hold hG hcur hsz hGm hi hz0 hz1 hz2 hrz h0
    go_enter Try.func78, Try.ntmps78
    go_wp2_with (at_builtin; refine Lib.wpList_append_run _ rfl _ _ _ _ rfl _ _ rfl rfl _ _ (HRZ.out _) ?_)
    go_ret
    exact ⟨_, rfl, HO.out, (Below.refl _ _).drew.alloc (Nat.le_refl _) _⟩
set_option maxRecDepth 100000 in
set_option maxHeartbeats 1000000 in
/-- slices.Concat: all rows, one behind the other, in a new one. -/
theorem concat64_any (w : World) (A : Option Addr) (n cap : Nat) (R : List RowI) (h : RowsN w A R) (hn : n = R.length) (hl : n ≤ 1000) (hall : ((lsI R).flatten).length ≤ 50000) :
    Calls Try.prog 59 #[.slice A n cap] w fun e w' => ∃ v, e = .returned v ∧ OwnN w' w.heap.size v ((lsI R).flatten) ∧ Below w.heap.size w w' := by
  subst hn
  have HI := Lib.hid h
  have HL := Lib.hid (fun k => flat_take_len (lsI R) k)
  have HA := Lib.hid hall
  clear h hall
  go_enter Try.func59, Try.ntmps59
  go_wp2_with fail
  go_loop [3, 11] (fun s j => ∃ k z : Nat, k ≤ R.length ∧ j = .int .i64 k ∧ s = .int .i64 z ∧ (((lsI R).take k).flatten).length = z) (fun _ j => R.length - (intOf j).toNat)
  case atStart => exact ⟨0, 0, Nat.zero_le _, rfl, rfl, rfl⟩
  case round =>
    obtain ⟨k, z, hk, rfl, rfl, hz⟩ := hrel
    have hzl : z ≤ 50000 := by have := HL.out k; have := HA.out; omega
    have HZ := Lib.hid hz
    clear hz
    by_cases hlt : k < R.length
    · have kk : (k : Int) < R.length := by omega
      have hxk : R[k]? = some R[k] := List.getElem?_eq_getElem hlt
      generalize hit : R[k] = r at *
      obtain ⟨ra, rl, rc⟩ := r
      obtain ⟨b0, off, rfl, hbl, c0⟩ := HI.out.at_ k _ hxk
      have hst := flat_take (ls_at hxk)
      simp only at c0 hst
      have hlen : (((lsI R).take (k + 1)).flatten).length = z + rl.length := by rw [hst, List.length_append, HZ.out]
      have hzl2 : z + rl.length ≤ 50000 := by have := HL.out (k + 1); have := HA.out; omega
      have HLEN := Lib.hid hlen
      clear hxk hit hst hlen
      go_wp2_with fail
      go_round
      case rel => exact ⟨k + 1, z + rl.length, by omega, by go_num, by go_num, HLEN.out⟩
      case measure => simp [intOf]; omega
    · obtain rfl : k = R.length := by omega
      have kk : ¬ (R.length : Int) < R.length := by omega
      rw [List.take_of_length_le (show (lsI R).length ≤ R.length by rw [ls_len]; exact Nat.le_refl _)] at HZ
      go_wp2_with fail
      refine (grow_nil64 w z (by omega)).mono ?_
      rintro e w1 ⟨v1, rfl, ho1, hb1⟩
      have HO1 := Lib.hid ho1
      have hb1s := hb1.size
      clear ho1
      go_wp2_with fail
      go_loopw [6, 27] (fun v j wr => ∃ k : Nat, k ≤ R.length ∧ j = .int .i64 k ∧ OwnN wr w.heap.size v (((lsI R).take k).flatten) ∧ Below w.heap.size w wr) (fun _ j _ => R.length - (intOf j).toNat)
      case atStart => exact ⟨0, Nat.zero_le _, rfl, HO1.out, hb1⟩
      case round =>
        clear hb1 hb1s
        obtain ⟨k, hk, rfl, hown, hb2⟩ := hrel
        have hbs := hb2.size
        have HO := Lib.hid hown
        clear hown
        by_cases hlt : k < R.length
        · have kk : (k : Int) < R.length := by omega
          have hxk : R[k]? = some R[k] := List.getElem?_eq_getElem hlt
          generalize hit : R[k] = r at *
          have hP := (HI.out.each r (List.mem_of_getElem? hxk)).call hb2
          obtain ⟨ra, rl, rc⟩ := r
          obtain ⟨b0, off, rfl, hbl, c0⟩ := (HI.out.call hb2).at_ k _ hxk
          have hst := flat_take (ls_at hxk)
          simp only at c0 hst hP
          have hzl2 : (((lsI R).take k).flatten).length + rl.length ≤ 50000 := by
            have h1 := HL.out (k + 1); have := HA.out
            rw [hst, List.length_append] at h1; omega
          have HST := Lib.hid hst
          have HP := Lib.hid hP
          obtain ⟨vA, vc, hv⟩ := HO.out.form
          clear hxk hit hst hP
          subst hv
          go_wp2_with (at_builtin; refine wpList_append_nums rfl _ _ rfl w.heap.size _ (((lsI R).take k).flatten) ra rc rl rfl HO.out rfl HP.out ?c1 ?c2 ?_)
          case c1 => omega
          case c2 => exact hbs
          intro v' w3 hown' hgrow
          have hb3 := hb2.grown hgrow hbs (fun g hg => by
            cases vA with
            | none => cases hg
            | some a => exact (HO.out.lt g hg).1)
          rw [← HST.out] at hown'
          clear hgrow
          go_wp2_with fail
          go_roundw
          case rel => exact ⟨k + 1, by omega, by go_num, hown', hb3⟩
          case measure => simp [intOf]; omega
        · obtain rfl : k = R.length := by omega
          rw [List.take_of_length_le (show (lsI R).length ≤ R.length by rw [ls_len]; exact Nat.le_refl _)] at HO
          have kk : ¬ (R.length : Int) < R.length := by omega
          go_wp2_with fail
          go_ret
          exact ⟨_, rfl, HO.out, hb2⟩
end Go.Proofs.Ytbdfmnlfdhhnjaa

/-
  The library contract of sort.Search, laid at this translation by program.
-/
namespace Go.Proofs
open Go.Shelf
def Try.search_ren : Go.Shelf.Ren := ⟨fun | 16 => 61 | n => n, fun | 3 => 3 | 35 => 58 | 4 => 4 | 38 => 66 | n => n, fun | n => n⟩
theorem Try.search : Go.Proofs.SlLaysO.n16 Try.prog Try.search_ren := {
  mixed := by kernel_rfl
  f16 := Try.func61.trans (congrArg some (by kernel_rfl))
  t3 := Try.underlying3
  a3 := Try.isAgg3
  z3 := Try.sizeOf3
  v3 := Try.zeroValue3
  t4 := Try.underlying4
  a4 := Try.isAgg4
  z4 := Try.sizeOf4
  v4 := Try.zeroValue4
  t35 := Try.underlying58
  a35 := Try.isAgg58
  z35 := Try.sizeOf58
  v35 := Try.zeroValue58
  t38 := Try.underlying66
  a38 := Try.isAgg66
  z38 := Try.sizeOf66
  v38 := Try.zeroValue66 }
end Go.Proofs

/-
  The landed package coins: Halve, Split, Up.
-/
namespace Go.Proofs.Ytbdfmnlfdhhnjaa
set_option linter.unusedVariables false
set_option linter.unusedSimpArgs false
open Go.RowKit Go.Sort

/-- What Split answers. -/
def SplitR (w : World) (keep : Int) (L : List Int) (e : Ending) (w' : World) : Prop :=
  ∃ u v, e = .returned (.tuple #[u, v]) ∧ FullN w' w.heap.size u (stayL keep L) ∧ PartN w' w.heap.size v (restL keep L) ∧ SplitN u v ∧ Below w.heap.size w w'
theorem splitr_of {w w1 w2 : World} {g n k cap d : Nat} {keep : Int} {L : List Int} {B : Option Addr} (hown : OwnN w1 w.heap.size (.slice (some ⟨g, 0, none⟩) n cap) (sortI L)) (hn : L.length = n) (hk : keepN keep n = k) (ok : ∀ p, p ∈ L → I64 p)
    (hB : B = some ⟨g, 0 + k, none⟩ ∨ (n = k ∧ B = some ⟨g, 0, none⟩)) (hd : n - k ≤ d) (hb : Below w.heap.size w w1) (h2 : Below w1.heap.size w1 w2) : SplitR w keep L (.returned (.tuple #[.slice (some ⟨g, 0, none⟩) k k, .slice B (n - k) d])) w2 := by
  obtain ⟨l1, l2⟩ := stay_len keep L
  rw [hn, hk] at l1 l2
  have hkn : k ≤ n := by rw [← hk]; exact (keepN_le keep n).1
  have hlt := hown.lt g rfl
  obtain ⟨A', cap', e, hN⟩ := hown.rows (fun p hp => ok p (sortI_mem.1 hp))
  obtain ⟨rfl, _, rfl⟩ := Value.slice.inj e
  have hfz : ∀ o, w1.frozen? ⟨g, o, none⟩ = false := World.ownsRow.frozenAt (show w1.ownsRow w.heap.size 2 1 (.slice (some ⟨g, 0, none⟩) n cap) _ (intsL (sortI L)) by
    have hX : w1.ownsRow w.heap.size 2 1 (.slice (some ⟨g, 0, none⟩) n cap) (sortI L).length (intsL (sortI L)) := hown
    rwa [sortI_len, hn] at hX)
  have hR := refsplit_of (base := w.heap.size) hn hk hN hlt.1 hB k d
  obtain ⟨r1, _, r3, _, r5, r6⟩ := hR
  have hF : FullN w1 w.heap.size (.slice (some ⟨g, 0, none⟩) k k) (stayL keep L) := ⟨_, by rw [l1], r1.at_, fun e => (by cases e), fun a e => (by cases e; exact hlt)⟩
  have hP : PartN w1 w.heap.size (.slice B (n - k) d) (restL keep L) := by
    refine ⟨B, d, by rw [l2], by omega, r3.at_, ?_, ?_⟩
    · rw [l2]
      rcases hB with rfl | ⟨e, rfl⟩
      · refine Or.inr ⟨g, 0 + k, rfl, hlt.2, fun i hi => ?_, hfz⟩
        obtain ⟨b, off, e, _, c0⟩ := r3.at_ i _ (List.getElem?_eq_getElem (by rw [l2]; exact hi))
        cases e
        exact ⟨_, c0⟩
      · exact Or.inl (by omega)
    · intro a e
      rcases hB with rfl | ⟨_, rfl⟩ <;> cases e <;> exact hlt
  refine ⟨_, _, rfl, hF.call h2, hP.call h2, ?_, hb.trans (h2.mono hb.size)⟩
  intro b o m c b' o' m' c' e1 e2 i j hi hj
  obtain ⟨e3, rfl, rfl⟩ := Value.slice.inj e1
  obtain ⟨e4, rfl, rfl⟩ := Value.slice.inj e2
  cases e3
  rcases hB with rfl | ⟨e5, rfl⟩
  · cases e4
    intro e6
    have := (Addr.mk.inj e6).2.1
    omega
  · omega
theorem splitr_nil {w w1 w2 : World} {keep : Int} {L : List Int} (hL : L.length = 0) (hb : Below w.heap.size w w1) (h2 : Below w1.heap.size w1 w2) : SplitR w keep L (.returned (.tuple #[.slice none 0 0, .slice none 0 0])) w2 := by
  obtain ⟨l1, l2⟩ := stay_len keep L
  have hk := (keepN_le keep L.length).1
  have e1 : stayL keep L = [] := List.eq_nil_of_length_eq_zero (by omega)
  have e2 : restL keep L = [] := List.eq_nil_of_length_eq_zero (by omega)
  refine ⟨_, _, rfl, ?_, ?_, ?_, hb.trans (h2.mono hb.size)⟩
  · rw [e1]; exact ⟨none, rfl, fun i p hi => by simp at hi, fun _ => rfl, fun a e => (by cases e)⟩
  · rw [e2]; exact ⟨none, 0, rfl, Nat.le_refl _, fun i p hi => by simp at hi, Or.inl rfl, fun a e => (by cases e)⟩
  · intro b o m c b' o' m' c' e1 e2
    cases e1

set_option maxRecDepth 100000 in
set_option maxHeartbeats 4000000 in
theorem coin_split (w : World) (A : Option Addr) (n cw : Nat) (L : List Int) (keep : Int) (h : Nums w A L) (hn : L.length = n) (hc : n ≤ cw) (hl : n ≤ 50000) (hk : I64 keep) :
    Calls Try.prog 64 #[.slice A n cw, .int .i64 keep] w fun e w' => SplitR w keep L e w' := by
  have HC := Lib.hid (clone_nums w A n cw L h hn (by omega))
  have HN := Lib.hid hn
  have HIL := Lib.hid h.ok
  obtain ⟨k0, k1⟩ := hk
  obtain ⟨k, hk⟩ : ∃ k, keepN keep n = k := ⟨_, rfl⟩
  have HK := Lib.hid hk
  have hkn : k ≤ n := by rw [← hk]; exact (keepN_le keep n).1
  have hmn : (if (n - min keep.toNat n) % 2 = 0 then min keep.toNat n else min keep.toNat n + 1) = k := hk
  obtain ⟨m, hm⟩ : ∃ m : Nat, max keep 0 = (m : Int) := ⟨(max keep 0).toNat, by omega⟩
  obtain ⟨s, hs⟩ : ∃ s : Nat, min m n = s := ⟨_, rfl⟩
  obtain ⟨r, hr⟩ : ∃ r : Nat, (n - s) % 2 = r := ⟨_, rfl⟩
  have hms : min keep.toNat n = s := by omega
  rw [hms] at hmn
  have hsk : s + r = k := by
    by_cases hp : (n - s) % 2 = 0
    · rw [if_pos hp] at hmn; omega
    · rw [if_neg hp] at hmn; omega
  have M0 := hm
  have M1 : min (m : Int) (n : Int) = (s : Int) := by omega
  have t1 : ((n : Int) - (s : Int)).tmod 2 = (r : Int) := by rw [Int.tmod_eq_emod_of_nonneg (by omega)]; omega
  have t2 : ((n : Int) - (s : Int)) % 2 = (r : Int) := by omega
  have t3 : (s : Int) + (r : Int) = (k : Int) := by omega
  have HM0 := Lib.hid M0
  have HSN : Hid (s ≤ n) := Lib.hid (by omega)
  clear h hn hk hms hmn hs hr hm M0
  go_enter Try.func64, Try.ntmps64
  go_wp2_with fail
  refine HC.out.mono ?_
  rintro e w1 ⟨v, rfl, hown, hb⟩
  have HS := Lib.hid (sort_nums w1 w.heap.size v L hown (by rw [HN.out]; omega))
  have HB := Lib.hid hb
  have hbs := hb.size
  clear hb
  go_wp2_with fail
  refine HS.out.mono ?_
  rintro e w2 ⟨rfl, hown2, hg2⟩
  have HB2 := Lib.hid (hown.below HB.out hg2 hbs)
  clear hg2 hown HS
  rcases hown2.either (fun p hp => HIL.out p (sortI_mem.1 hp)) with ⟨rfl, hnil⟩ | ⟨g, off, cap, rfl, hnums, hg0, hg1, hcap⟩
  · have hn0 : n = 0 := by rw [← HN.out, ← sortI_len L, hnil]; rfl
    subst hn0
    have hk0 : k = 0 := by omega
    have hs0 : s = 0 := by have := HSN.out; omega
    have hr0 : r = 0 := by omega
    subst hk0 hs0 hr0
    clear hown2 hnil t1 t2 t3 M1 hsk hc
    have M0 := HM0.out
    have M2 : min (m : Int) 0 = 0 := by omega
    go_wp2_with fail
    go_quiet (fail)
    rename_i nq
    go_wp2_with fail
    go_ret2
    exact splitr_nil HN.out HB2.out (below_drewN (Below.refl _ _) nq)
  · rw [sortI_len, HN.out] at hcap ⊢
    have hoff : off = 0 := by
      rcases hown2.2 with ⟨e2, _⟩ | ⟨g', cap', cur, e2, _⟩
      · cases e2
      · injection e2 with e3
        exact (Addr.mk.inj (Option.some.inj e3)).2.1
    subst hoff
    rw [sortI_len, HN.out] at hown2
    have HO := Lib.hid hown2
    clear hown2 hnums hc
    have p2 : (k : Int) ≤ cap := by omega
    have p3 : k ≤ cap := by omega
    have p4 : (n : Int) ≤ cap := by omega
    have p5 : (k : Int) ≤ n := by omega
    have MM := HM0.out
    by_cases hck : cap = k
    · have hnk : n = k := by omega
      have HF := Lib.hid (fun nq => splitr_of (d := 0) (w2 := w2.drewN nq) HO.out HN.out HK.out HIL.out (Or.inr ⟨hnk, rfl⟩) (by omega) HB2.out (below_drewN (Below.refl _ _) nq))
      subst hnk
      subst hck
      go_wp2_with fail
      go_quiet (fail)
      rename_i nq
      go_wp2_with fail
      go_ret2
      first | exact HF.out nq | (simp only [Nat.sub_self] at HF ⊢; exact HF.out nq)
    · have HF := Lib.hid (fun nq => splitr_of (d := cap - k) (w2 := w2.drewN nq) HO.out HN.out HK.out HIL.out (Or.inl rfl) (by omega) HB2.out (below_drewN (Below.refl _ _) nq))
      go_wp2_with fail
      go_quiet (fail)
      rename_i nq
      go_wp2_with fail
      go_ret2
      first | exact HF.out nq | (simp only [Nat.zero_add] at HF ⊢; exact HF.out nq)

/-- Is the value at an index greater? -/
def overN (x : Int) (L : List Int) (i : Nat) : Bool := match L[i]? with | none => true | some y => decide (x < y)
theorem over_count (x : Int) : ∀ (L : List Int), (((List.range L.length).countP (fun i => !overN x L i) : Nat) : Int) = upV L x
  | [] => rfl
  | p :: r => by
    have ih := over_count x r
    rw [List.length_cons, List.range_succ_eq_map, List.countP_cons, List.countP_map, upV_cons, ← ih]
    have e : ((fun i => !overN x (p :: r) i) ∘ Nat.succ) = fun i => !overN x r i := by
      funext i
      show (!overN x (p :: r) (i + 1)) = _
      unfold overN
      rw [List.getElem?_cons_succ]
    rw [e]
    have e2 : overN x (p :: r) 0 = decide (x < p) := rfl
    rw [e2]
    by_cases h : x < p
    · have hp : ¬ p ≤ x := by omega
      rw [decide_eq_true h]; simp [hp]
    · have hp : p ≤ x := by omega
      rw [decide_eq_false h]; simp [hp]; omega
theorem over_mono {x : Int} {L : List Int} (h : L.Pairwise (fun a b => a ≤ b)) {a b : Nat} (hab : a ≤ b) (hb : b < L.length) (ha : overN x L a = true) : overN x L b = true := by
  unfold overN at *
  rw [List.getElem?_eq_getElem hb]
  rw [List.getElem?_eq_getElem (show a < L.length by omega)] at ha
  simp only [decide_eq_true_eq] at ha ⊢
  rcases Nat.lt_or_ge a b with hlt | hge
  · have := List.pairwise_iff_getElem.1 h a b (by omega) hb hlt
    omega
  · have : a = b := by omega
    subst this
    exact ha

theorem grow_belowC {B : Nat} {w : World} (q : Nat) (os : Array Obj) (hB : B ≤ w.heap.size) : Below B w (grow (w.drewN q) os) := below_grown_sl B w q os hB

/-- Two boxes. -/
structure BoxN (w : World) (X Y : Nat) (A : Option Addr) (n cap : Nat) (x : Int) : Prop where
  cX : w.cell? ⟨X, 0, none⟩ = some (.slice A n cap)
  cY : w.cell? ⟨Y, 0, none⟩ = some (.int .i64 x)
theorem boxN_new (w : World) (A : Option Addr) (n cap : Nat) (x : Int) : BoxN ((w.alloc (.cells #[.slice A n cap] 62)).alloc (.cells #[.int .i64 x] 2)) w.heap.size (w.heap.size + 1) A n cap x := by
  have h1 : (w.alloc (.cells #[.slice A n cap] 62)).cell? ⟨w.heap.size, 0, none⟩ = some (.slice A n cap) := by
    rw [Joins.cell_of_block (heap_alloc_new w _)]; rfl
  have h2 := Joins.cell_of_block (i := 0) (heap_alloc_new (w.alloc (.cells #[.slice A n cap] 62)) (.cells #[.int .i64 x] 2))
  have e : (w.alloc (.cells #[.slice A n cap] 62)).heap.size = w.heap.size + 1 := by simp
  rw [e] at h2
  exact ⟨cell_later ((Below.refl _ _).alloc (Nat.le_refl _) _) h1, by rw [h2]; rfl⟩

set_option maxRecDepth 100000 in
set_option maxHeartbeats 2000000 in
theorem coin_halve (w : World) (A : Option Addr) (n cap : Nat) (L : List Int) (b : Bool) (h : Nums w A L) (hn : L.length = n) (hl : n ≤ 50000) :
    Calls Try.prog 65 #[.slice A n cap, .bool b] w fun e w' => ∃ v, e = .returned v ∧ OwnN w' w.heap.size v (halvB b L) ∧ Below w.heap.size w w' := by
  have HI := Lib.hid h
  have HL := Lib.hid hn
  obtain ⟨s, hs⟩ : ∃ s : Nat, (if b = true then 1 else 0) = s := ⟨_, rfl⟩
  have HS := Lib.hid hs
  have hs1 : s ≤ 1 := by cases b <;> simp at hs <;> omega
  have H0 : Hid (halvB b (L.take s) = []) := Lib.hid (by
    rw [← hs]
    cases b with
    | false => rfl
    | true => cases L <;> rfl)
  have HLE : Hid (∀ i, (halvB b (L.take i)).length ≤ 50000) := Lib.hid fun i => by
    rw [halv_len]
    have : (L.take i).length ≤ n := by rw [List.length_take]; omega
    split <;> omega
  clear h hn
  have key : ∀ (w2 : World), w2 = w → True := fun _ _ => trivial
  clear key
  cases b with
  | false =>
    obtain rfl : s = 0 := by simpa using hs.symm
    clear hs
    go_enter Try.func65, Try.ntmps65
    go_wp2_with fail
    go_loopw [6, 7] (fun ov iv wr => ∃ (i : Nat), i ≤ n + 1 ∧ i % 2 = 0 ∧ iv = .int .i64 i ∧ OwnN wr w.heap.size ov (halvB false (L.take i)) ∧ Below w.heap.size w wr) (fun _ iv _ => n + 2 - (intOf iv).toNat)
    case atStart => exact ⟨0, Nat.zero_le _, rfl, rfl, OwnN.nil _ _, Below.refl _ _⟩
    case round =>
      obtain ⟨i, hi, hp, rfl, ho, hb⟩ := hrel
      have HO := Lib.hid ho
      have HB := Lib.hid hb
      have hbs := hb.size
      obtain ⟨vA, vk, hv⟩ := ho.form
      obtain ⟨m, hm⟩ : ∃ m, (halvB false (L.take i)).length = m := ⟨_, rfl⟩
      rw [hm] at hv
      subst hv
      have hm2 : m ≤ 50000 := by rw [← hm]; exact HLE.out i
      have HM := Lib.hid hm
      clear ho hb hm
      by_cases hlt : i < n
      · have kk : (i : Int) < n := by omega
        have hxk := List.getElem?_eq_getElem (l := L) (i := i) (by rw [HL.out]; exact hlt)
        generalize L[i]'(by rw [HL.out]; exact hlt) = x at hxk
        obtain ⟨ba, oa, rfl, _, c0⟩ := (HI.out.call HB.out).at_ i x hxk
        have HST := Lib.hid (halv_step false L i x hxk (by simpa using hp))
        have HAL : Hid (Below wr.heap.size wr (wr.alloc (.cells #[.int .i64 x] 2))) := Lib.hid ((Below.refl _ _).alloc (Nat.le_refl _) _)
        clear hxk
        go_wp2_with (at_builtin; refine wpList_append_num rfl _ _ rfl w.heap.size _ _ m HM.out wr.heap.size x rfl (HO.out.call HAL.out) rfl ?c1 ?c4 ?c5 ?_)
        case c1 => go_simp
        case c4 => omega
        case c5 => exact Nat.le_trans hbs HAL.out.size
        intro g' cp w1 hown' hgrow _
        have hb4 := (HO.out.call HAL.out).below (HB.out.trans (HAL.out.mono hbs)) hgrow (Nat.le_trans hbs HAL.out.size)
        rw [← HST.out] at hown'
        clear hgrow
        go_wp2_with fail
        go_roundw
        case rel => exact ⟨i + 2, by omega, by omega, by go_num, hown', hb4⟩
        case measure => simp [intOf]; omega
      · have kk : ¬ (i : Int) < n := by omega
        have HT : Hid (L.take i = L) := Lib.hid (List.take_of_length_le (by rw [HL.out]; omega))
        rw [HT.out] at HO
        go_wp2_with fail
        go_ret
        exact ⟨_, rfl, HO.out, HB.out⟩
  | true =>
    obtain rfl : s = 1 := by simpa using hs.symm
    clear hs
    go_enter Try.func65, Try.ntmps65
    go_wp2_with fail
    go_loopw [6, 7] (fun ov iv wr => ∃ (i : Nat), i ≤ n + 1 ∧ i % 2 = 1 ∧ iv = .int .i64 i ∧ OwnN wr w.heap.size ov (halvB true (L.take i)) ∧ Below w.heap.size w wr) (fun _ iv _ => n + 2 - (intOf iv).toNat)
    case atStart => exact ⟨1, by omega, rfl, rfl, by rw [H0.out]; exact OwnN.nil _ _, Below.refl _ _⟩
    case round =>
      obtain ⟨i, hi, hp, rfl, ho, hb⟩ := hrel
      have HO := Lib.hid ho
      have HB := Lib.hid hb
      have hbs := hb.size
      obtain ⟨vA, vk, hv⟩ := ho.form
      obtain ⟨m, hm⟩ : ∃ m, (halvB true (L.take i)).length = m := ⟨_, rfl⟩
      rw [hm] at hv
      subst hv
      have hm2 : m ≤ 50000 := by rw [← hm]; exact HLE.out i
      have HM := Lib.hid hm
      clear ho hb hm
      by_cases hlt : i < n
      · have kk : (i : Int) < n := by omega
        have hxk := List.getElem?_eq_getElem (l := L) (i := i) (by rw [HL.out]; exact hlt)
        generalize L[i]'(by rw [HL.out]; exact hlt) = x at hxk
        obtain ⟨ba, oa, rfl, _, c0⟩ := (HI.out.call HB.out).at_ i x hxk
        have HST := Lib.hid (halv_step true L i x hxk (by simpa using hp))
        have HAL : Hid (Below wr.heap.size wr (wr.alloc (.cells #[.int .i64 x] 2))) := Lib.hid ((Below.refl _ _).alloc (Nat.le_refl _) _)
        clear hxk
        go_wp2_with (at_builtin; refine wpList_append_num rfl _ _ rfl w.heap.size _ _ m HM.out wr.heap.size x rfl (HO.out.call HAL.out) rfl ?c1 ?c4 ?c5 ?_)
        case c1 => go_simp
        case c4 => omega
        case c5 => exact Nat.le_trans hbs HAL.out.size
        intro g' cp w1 hown' hgrow _
        have hb4 := (HO.out.call HAL.out).below (HB.out.trans (HAL.out.mono hbs)) hgrow (Nat.le_trans hbs HAL.out.size)
        rw [← HST.out] at hown'
        clear hgrow
        go_wp2_with fail
        go_roundw
        case rel => exact ⟨i + 2, by omega, by omega, by go_num, hown', hb4⟩
        case measure => simp [intOf]; omega
      · have kk : ¬ (i : Int) < n := by omega
        have HT : Hid (L.take i = L) := Lib.hid (List.take_of_length_le (by rw [HL.out]; omega))
        rw [HT.out] at HO
        go_wp2_with fail
        go_ret
        exact ⟨_, rfl, HO.out, HB.out⟩

theorem row_does : RowDoes where
  halve := coin_halve
  split := coin_split

end Go.Proofs.Ytbdfmnlfdhhnjaa

/-
  The landed package req: Quantile.
-/
namespace Go.Proofs.Ytbdfmnlfdhhnjaa
set_option linter.unusedVariables false
set_option linter.unusedSimpArgs false
open Go.RowKit Go.Sort

/-! ### Plain -/
theorem mono_count (p : Nat → Bool) : ∀ n, (∀ a b, a ≤ b → b < n → p a = true → p b = true) → (List.range n).countP (fun i => !p i) ≤ n ∧ ∀ i, i < n → (p i = true ↔ (List.range n).countP (fun i => !p i) ≤ i)
  | 0, _ => ⟨Nat.le_refl _, fun i hi => absurd hi (Nat.not_lt_zero _)⟩
  | n + 1, h => by
    obtain ⟨i1, i2⟩ := mono_count p n fun a b hab hb => h a b hab (by omega)
    rw [List.range_succ, List.countP_append]
    generalize hk : (List.range n).countP (fun i => !p i) = k at *
    by_cases c : p n = true
    · have e : List.countP (fun i => !p i) [n] = 0 := by simp [c]
      rw [e]
      refine ⟨by omega, fun i hi => ?_⟩
      by_cases ci : i = n
      · subst ci
        exact ⟨fun _ => by omega, fun _ => c⟩
      · exact i2 i (by omega)
    · have c' : p n = false := by simpa using c
      have e : List.countP (fun i => !p i) [n] = 1 := by simp [c']
      have hall : ∀ i, i < n + 1 → ¬ p i = true := fun i hi hp => c (h i n (by omega) (by omega) hp)
      have hkn : k = n := by
        by_cases c0 : n = 0
        · omega
        · have h1 := i2 (n - 1) (by omega)
          have h2 := hall (n - 1) (by omega)
          have h3 : ¬ k ≤ n - 1 := fun q => h2 (h1.2 q)
          omega
      rw [e]
      refine ⟨by omega, fun i hi => ⟨fun hp => absurd hp (hall i hi), fun q => by omega⟩⟩
theorem best_fold (R : List (List Int)) (pl : Int) : ∀ (L : List Int) (b0 : Int), L.foldl (stepQ R pl) b0 ≤ b0 ∧ (∀ x, x ∈ L → pl ≤ rankR x R → L.foldl (stepQ R pl) b0 ≤ x) ∧ (L.foldl (stepQ R pl) b0 = b0 ∨ (L.foldl (stepQ R pl) b0 ∈ L ∧ pl ≤ rankR (L.foldl (stepQ R pl) b0) R))
  | [], b0 => ⟨Int.le_refl _, fun x h => (by cases h), Or.inl rfl⟩
  | y :: L, b0 => by
    obtain ⟨i1, i2, i3⟩ := best_fold R pl L (stepQ R pl b0 y)
    rw [List.foldl_cons]
    have hs : stepQ R pl b0 y ≤ b0 ∧ (pl ≤ rankR y R → stepQ R pl b0 y ≤ y) ∧ (stepQ R pl b0 y = b0 ∨ (stepQ R pl b0 y = y ∧ pl ≤ rankR y R)) := by
      unfold stepQ
      by_cases c : y < b0 ∧ pl ≤ rankR y R
      · rw [if_pos c]; exact ⟨by omega, fun _ => Int.le_refl _, Or.inr ⟨rfl, c.2⟩⟩
      · rw [if_neg c]
        refine ⟨Int.le_refl _, fun h => ?_, Or.inl rfl⟩
        have : ¬ y < b0 := fun q => c ⟨q, h⟩
        omega
    obtain ⟨s1, s2, s3⟩ := hs
    refine ⟨by omega, fun x hx hp => ?_, ?_⟩
    · rcases List.mem_cons.1 hx with rfl | hx
      · have := s2 hp; omega
      · exact i2 x hx hp
    · rcases i3 with e | ⟨e1, e2⟩
      · rw [e]
        rcases s3 with q | ⟨q1, q2⟩
        · exact Or.inl q
        · exact Or.inr ⟨by rw [q1]; exact List.mem_cons_self, by rw [q1]; exact q2⟩
      · exact Or.inr ⟨List.mem_cons_of_mem _ e1, e2⟩
theorem up_mono {x y : Int} (h : x ≤ y) : ∀ (r : List Int), upV r x ≤ upV r y
  | [] => Int.le_refl _
  | z :: r => by
    have i := up_mono h r
    rw [upV_cons, upV_cons]
    by_cases c : z ≤ x
    · rw [if_pos c, if_pos (by omega)]; omega
    · rw [if_neg c]
      by_cases d : z ≤ y
      · rw [if_pos d]; omega
      · rw [if_neg d]; omega
theorem rank_mono {x y : Int} (h : x ≤ y) : ∀ (R : List (List Int)), rankR x R ≤ rankR y R
  | [] => Int.le_refl _
  | r :: R => by
    have i := rank_mono h R
    have u : upV r x ≤ upV r y := up_mono h r
    show upV r x + 2 * rankR x R ≤ upV r y + 2 * rankR y R
    omega
/-- Has the value at an index as many up to it as are asked for? -/
def askR (R : List (List Int)) (pl : Int) (V : List Int) (i : Nat) : Bool := match V[i]? with | none => true | some y => decide (pl ≤ rankR y R)
theorem ask_mono {R : List (List Int)} {pl : Int} {V : List Int} (h : V.Pairwise (fun a b => a ≤ b)) {a b : Nat} (hab : a ≤ b) (hb : b < V.length) (ha : askR R pl V a = true) : askR R pl V b = true := by
  unfold askR at *
  rw [List.getElem?_eq_getElem hb]
  rw [List.getElem?_eq_getElem (show a < V.length by omega)] at ha
  simp only [decide_eq_true_eq] at ha ⊢
  rcases Nat.lt_or_ge a b with hlt | hge
  · have h1 := List.pairwise_iff_getElem.1 h a b (by omega) hb hlt
    have := rank_mono h1 R
    omega
  · have : a = b := by omega
    subst this
    exact ha
/-- The value that is found. -/
theorem ask_best {R : List (List Int)} {pl : Int} (h1 : 1 ≤ pl) (h2 : pl ≤ wtR R) (ok : ∀ x, x ∈ R.flatten → x ≤ 9223372036854775807) {k : Nat} (hk : (List.range (sortI R.flatten).length).countP (fun i => !askR R pl (sortI R.flatten) i) = k) : (sortI R.flatten)[k]? = some (bestQ R pl) := by
  have hs := sortI_sorted20 R.flatten
  have hmem : ∀ x, x ∈ sortI R.flatten ↔ x ∈ R.flatten := fun x => (sortI_perm R.flatten).mem_iff
  obtain ⟨V, hV⟩ : ∃ V, sortI R.flatten = V := ⟨_, rfl⟩
  rw [hV] at hs hmem hk ⊢
  obtain ⟨m1, m2⟩ := mono_count (askR R pl V) V.length fun a b hab hb ha => ask_mono hs hab hb ha
  rw [hk] at m1 m2
  have hne : V ≠ [] := fun e => by
    have hz : noneR 0 R := fun r hr => by
      have hr0 : r = [] := by
        cases r with
        | nil => rfl
        | cons y s =>
          have : y ∈ V := (hmem y).2 (List.mem_flatten.2 ⟨_, hr, List.mem_cons_self⟩)
          rw [e] at this; cases this
      rw [hr0]; rfl
    have h3 := rank_none hz
    have h4 : rankR 0 R = wtR R := rank_all fun r hr y hy => by
      have : y ∈ V := (hmem y).2 (List.mem_flatten.2 ⟨_, hr, hy⟩)
      rw [e] at this; cases this
    omega
  have hn : 0 < V.length := List.length_pos_iff.2 hne
  have hlast : askR R pl V (V.length - 1) = true := by
    unfold askR
    rw [List.getElem?_eq_getElem (by omega)]
    have h4 : rankR (V[V.length - 1]'(by omega)) R = wtR R := rank_all fun r hr y hy => by
      have hyV : y ∈ V := (hmem y).2 (List.mem_flatten.2 ⟨_, hr, hy⟩)
      obtain ⟨i, hi, e⟩ := List.mem_iff_getElem.1 hyV
      rw [← e]
      rcases Nat.lt_or_ge i (V.length - 1) with c | c
      · exact List.pairwise_iff_getElem.1 hs i (V.length - 1) hi (by omega) c
      · have : i = V.length - 1 := by omega
        subst this
        exact Int.le_refl _
    simp only [h4, decide_eq_true_eq]
    exact h2
  have hk2 := (m2 (V.length - 1) (by omega)).1 hlast
  have hkl : k < V.length := by omega
  have hpk := (m2 k hkl).2 (Nat.le_refl _)
  unfold askR at hpk
  rw [List.getElem?_eq_getElem hkl] at hpk ⊢
  simp only [decide_eq_true_eq] at hpk
  obtain ⟨b1, b2, b3⟩ := best_fold R pl R.flatten 9223372036854775807
  have hin : V[k] ∈ R.flatten := (hmem _).1 (List.getElem_mem hkl)
  have hle := b2 _ hin hpk
  congr 1
  show V[k] = R.flatten.foldl (stepQ R pl) 9223372036854775807
  have hge : V[k] ≤ R.flatten.foldl (stepQ R pl) 9223372036854775807 := by
    rcases b3 with e | ⟨e1, e2⟩
    · rw [e]; exact ok _ hin
    · obtain ⟨i, hi, e⟩ := List.mem_iff_getElem.1 ((hmem _).2 e1)
      have hpi : askR R pl V i = true := by
        unfold askR
        rw [List.getElem?_eq_getElem hi, e]
        exact decide_eq_true e2
      have hki := (m2 i hi).1 hpi
      rw [← e]
      rcases Nat.lt_or_ge k i with c | c
      · exact List.pairwise_iff_getElem.1 hs k i hkl hi c
      · have : k = i := by omega
        subst this
        exact Int.le_refl _
  omega

set_option maxRecDepth 100000 in
set_option maxHeartbeats 1000000 in
/-- One index asked. -/
theorem rask_any {Tp : TapT} (D : TapDoes Tp) (w : World) (X Y Z cap n i : Nat) (A : Option Addr) (V : List Int) (pl : Int) {P T : Nat} {B word low high : Int} {u : Nat} {hv : Value} {R : List RowI} (h : RqRaw Tp w P T B word low high u hv R) (hne : R ≠ []) (hR : R.length ≤ 20) (hl : ∀ r, r ∈ R → r.l.length ≤ 20000) (hi : i < n) (hn : V.length = n) (hn2 : n ≤ 50000) (hN : Nums w A V)
    (cX : w.cell? ⟨X, 0, none⟩ = some (.pointer (some ⟨P, 0, none⟩))) (cY : w.cell? ⟨Y, 0, none⟩ = some (.slice A n cap)) (cZ : w.cell? ⟨Z, 0, none⟩ = some (.int .u64 pl)) :
    Calls Try.prog 62 (#[.int .i64 i] ++ #[.pointer (some ⟨X, 0, none⟩), .pointer (some ⟨Y, 0, none⟩), .pointer (some ⟨Z, 0, none⟩)]) w fun e w' => e = .returned (.bool (askR (lsI R) pl V i)) ∧ ∃ q, w' = w.drewN q := by
  have hiz : (i : Int) < (n : Int) := by omega
  have hxk := List.getElem?_eq_getElem (l := V) (i := i) (by omega)
  generalize V[i]'(by omega) = y at hxk
  obtain ⟨b0, off, rfl, hbl, c0⟩ := hN.at_ i _ hxk
  have ha : askR (lsI R) pl V i = decide (pl ≤ rankR y (lsI R)) := by unfold askR; rw [hxk]
  rw [ha]
  obtain ⟨q, hq⟩ : ∃ q, rankR y (lsI R) = q := ⟨_, rfl⟩
  have CR := Lib.hid (fun W (hb : Below w.heap.size w W) => rq_rank (h.call D hb) hne hR hl hq)
  rw [hq]
  clear ha hxk hN hn h hne hR hl hq
  go_enter Try.func62, Try.ntmps62
  go_wp2_with fail
  go_quiet ((go_at_call 19; with_reducible exact Calls.quiet_of_same ((CR.out _ (below_drewN (Below.refl _ _) _)).mono fun e w' hx => ⟨hx.1, hx.2.symm⟩)))
  go_wp2_with fail
  go_ret
  exact ⟨rfl, _, rfl⟩

set_option maxHeartbeats 1000000 in
theorem rsrch_any {Tp : TapT} (D : TapDoes Tp) (w : World) (X Y Z cap n k : Nat) (A : Option Addr) (V : List Int) (pl : Int) {P T : Nat} {B word low high : Int} {u : Nat} {hv : Value} {R : List RowI} (h : RqRaw Tp w P T B word low high u hv R) (hne : R ≠ []) (hR : R.length ≤ 20) (hl : ∀ r, r ∈ R → r.l.length ≤ 20000) (hn : V.length = n) (hn2 : n ≤ 50000) (hN : Nums w A V) (hs : V.Pairwise (fun a b => a ≤ b))
    (cX : w.cell? ⟨X, 0, none⟩ = some (.pointer (some ⟨P, 0, none⟩))) (cY : w.cell? ⟨Y, 0, none⟩ = some (.slice A n cap)) (cZ : w.cell? ⟨Z, 0, none⟩ = some (.int .u64 pl)) (hk : (List.range n).countP (fun i => !askR (lsI R) pl V i) = k) :
    Calls Try.prog 61 #[.int .i64 n, .func (.func 62) #[] #[.pointer (some ⟨X, 0, none⟩), .pointer (some ⟨Y, 0, none⟩), .pointer (some ⟨Z, 0, none⟩)]] w fun e w' => e = .returned (.int .i64 k) ∧ Below w.heap.size w w' := by
  have eg : ∀ args w, (callFunc 62 args).run Try.prog w = .ok (.enter 62 args) w := enters_of Try.func62 (by kernel_rfl) rfl
  have lX := World.block_lt_of_cell? (a := ⟨X, 0, none⟩) w cX
  have lY := World.block_lt_of_cell? (a := ⟨Y, 0, none⟩) w cY
  have lZ := World.block_lt_of_cell? (a := ⟨Z, 0, none⟩) w cZ
  have hS := Any.sort_Search Try.search 62 #[.pointer (some ⟨X, 0, none⟩), .pointer (some ⟨Y, 0, none⟩), .pointer (some ⟨Z, 0, none⟩)] n (fun i => askR (lsI R) pl V i) w eg (by omega)
    (fun q os i hi => (rask_any D _ X Y Z cap n i A V pl (h.call D (grow_belowC q os (Nat.le_refl _))) hne hR hl hi hn hn2 (hN.call (grow_belowC q os (Nat.le_refl _))) (Go.cell_grown lX cX q os) (Go.cell_grown lY cY q os) (Go.cell_grown lZ cZ q os)).mono
      fun _ _ ⟨he, q, hq⟩ => ⟨he, q, #[], by rw [hq, grow_empty]⟩)
    (fun a b hab hb ha => ask_mono hs hab (by omega) ha)
  refine hS.mono ?_
  rintro e' w' ⟨rfl, q, os, rfl⟩
  exact ⟨by rw [hk], grow_belowC q os (Nat.le_refl _)⟩

set_option maxRecDepth 100000 in
set_option maxHeartbeats 2000000 in
theorem rq_at {Tp : TapT} (D : TapDoes Tp) {w : World} {P T : Nat} {B word low high : Int} {u : Nat} {hv : Value} {R : List RowI} {pl q : Int} (h : RqRaw Tp w P T B word low high u hv R) (hne : R ≠ []) (hR : R.length ≤ 20) (hl : ∀ r, r ∈ R → r.l.length ≤ 2000) (h1 : 1 ≤ pl) (h2 : pl ≤ wtR (lsI R)) (hq : bestQ (lsI R) pl = q) :
    Calls Try.prog 37 #[.pointer (some ⟨P, 0, none⟩), .int .u64 pl] w fun e w' => e = .returned (.int .i64 q) ∧ Below w.heap.size w w' := by
  have hl2 : ∀ r, r ∈ R → r.l.length ≤ 20000 := fun r hr => by have := hl r hr; omega
  have hok : ∀ x, x ∈ (lsI R).flatten → I64 x := fun x hx => by
    obtain ⟨l, hl1, hx2⟩ := List.mem_flatten.1 hx
    obtain ⟨r, hr, rfl⟩ := List.mem_map.1 hl1
    exact (h.row r hr).2 x hx2
  have hfl : ((lsI R).flatten).length ≤ 40000 := by
    have key : ∀ (L : List (List Int)), (∀ r, r ∈ L → r.length ≤ 2000) → L.flatten.length ≤ 2000 * L.length := by
      intro L
      induction L with
      | nil => intro _; exact Nat.le_refl _
      | cons a b ih =>
        intro hh
        have i := ih fun r hr => hh r (List.mem_cons_of_mem _ hr)
        have j := hh a List.mem_cons_self
        rw [List.flatten_cons, List.length_append, List.length_cons, Nat.mul_add]
        omega
    have h3 := key (lsI R) fun r hr => by
      obtain ⟨s, hs, rfl⟩ := List.mem_map.1 hr
      exact hl s hs
    rw [ls_len] at h3
    omega
  obtain ⟨g, cap, rfl, hg, hc, hN⟩ := h.rowsN hne
  obtain ⟨F, hF⟩ : ∃ F, (lsI R).flatten = F := ⟨_, rfl⟩
  obtain ⟨n, hn⟩ : ∃ n, F.length = n := ⟨_, rfl⟩
  obtain ⟨k, hk⟩ : ∃ k, (List.range (sortI (lsI R).flatten).length).countP (fun i => !askR (lsI R) pl (sortI (lsI R).flatten) i) = k := ⟨_, rfl⟩
  have hbest := ask_best h1 h2 (fun x hx => (hok x hx).2) hk
  rw [hF] at hk hbest hok hfl
  rw [hq] at hbest
  rw [sortI_len, hn] at hk
  rw [hn] at hfl
  have hkn : k < n := by
    by_cases c : k < n
    · exact c
    · rw [List.getElem?_eq_none (by rw [sortI_len, hn]; omega)] at hbest; cases hbest
  have CC := Lib.hid (fun W (hb : Below w.heap.size w W) => concat64_any W (some ⟨g, 0, none⟩) R.length cap R (hN.call hb) rfl (by omega) (by rw [hF, hn]; omega))
  rw [hF] at CC
  have HR := Lib.hid h
  have HDD := Lib.hid D
  have HNE := Lib.hid hne
  have HL2 := Lib.hid hl2
  have HOK := Lib.hid hok
  have HN := Lib.hid hn
  have HK := Lib.hid hk
  have HBEST := Lib.hid hbest
  have HRL := Lib.hid hR
  have HW1 : Hid (Below w.heap.size w ((w.alloc (.cells #[.pointer (some ⟨P, 0, none⟩)] 29)).alloc (.cells #[.int .u64 pl] 22))) := Lib.hid (((Below.refl _ _).alloc (Nat.le_refl _) _).alloc (by simp) _)
  have hPl := h.lt
  have c2 := h.c2
  obtain ⟨rn, hrn⟩ : ∃ rn, R.length = rn := ⟨_, rfl⟩
  rw [hrn] at CC c2
  have HRN := Lib.hid hrn
  clear h hne hR hl hl2 hok hN hF hn hk hbest hq hrn hc h1 h2 D
  go_enter Try.func37, Try.ntmps37
  go_wp2_with fail
  with_reducible (refine (CC.out _ HW1.out).mono ?_)
  rintro e w3 ⟨v3, rfl, ho3, hb3⟩
  obtain ⟨g3, off3, cap3, hv3, hN3, hg30, hg31, hc3⟩ := ho3.some_ HOK.out (by rw [HN.out]; omega)
  have hoff : off3 = 0 := by
    rcases ho3.2 with ⟨e2, h0⟩ | ⟨g', cap', cur, e2, _⟩
    · rw [hv3] at e2; cases e2
    · rw [hv3] at e2
      injection e2 with e3
      exact (Addr.mk.inj (Option.some.inj e3)).2.1
  subst hoff
  rw [HN.out] at hv3 hc3
  subst hv3
  have HO3 := Lib.hid ho3
  have HB3 := Lib.hid (HW1.out.trans (hb3.mono HW1.out.size))
  have HB3' := Lib.hid hb3
  have HG3 := Lib.hid (⟨by simpa using hg30, hg31⟩ : w.heap.size + 2 ≤ g3 ∧ g3 < w3.heap.size)
  clear ho3 hb3 hN3 hg30 hg31 CC
  have HA4 : Hid (Below w3.heap.size w3 (w3.alloc (.cells #[.slice (some ⟨g3, 0, none⟩) n cap3] 62))) := Lib.hid ((Below.refl _ _).alloc (Nat.le_refl _) _)
  have CS := Lib.hid (sort_nums _ _ _ _ (HO3.out.call HA4.out) (by rw [HN.out]; omega))
  have HY4 : Hid ((w3.alloc (.cells #[.slice (some ⟨g3, 0, none⟩) n cap3] 62)).cell? ⟨w3.heap.size, 0, none⟩ = some (.slice (some ⟨g3, 0, none⟩) n cap3)) := Lib.hid (by go_simp)
  go_wp2_with fail
  with_reducible (refine CS.out.mono ?_)
  rintro e w5 ⟨rfl, ho5, hg5⟩
  have hB4 := HB3.out.trans (HA4.out.mono HB3.out.size)
  have hB5 : Below w.heap.size w w5 := hB4.grown hg5 hB4.size fun j hj => by
    have e : g3 = j := Option.some.inj hj
    have := HG3.out.1
    omega
  have hZ : w3.heap.size ≤ w5.heap.size := Nat.le_trans HA4.out.size hg5.size
  have hnX : ∀ j, j < w.heap.size + 2 → some j ≠ (Value.slice (some ⟨g3, 0, none⟩) n cap3).ownBlock := fun j hj e => by
    have e' : j = g3 := Option.some.inj e
    have := HG3.out.1
    omega
  have hX2 : w5.cell? ⟨w.heap.size, 0, none⟩ = some (.pointer (some ⟨P, 0, none⟩)) := hg5.cell (cell_later HA4.out (cell_later HB3'.out (by go_simp))) (hnX w.heap.size (by omega))
  have hZ2 : w5.cell? ⟨w.heap.size + 1, 0, none⟩ = some (.int .u64 pl) := hg5.cell (cell_later HA4.out (cell_later HB3'.out (by go_simp))) (hnX (w.heap.size + 1) (by omega))
  have hY2 : w5.cell? ⟨w3.heap.size, 0, none⟩ = some (.slice (some ⟨g3, 0, none⟩) n cap3) := hg5.cell HY4.out (fun e => by
    have e' : w3.heap.size = g3 := Option.some.inj e
    have := HG3.out.2
    omega)
  obtain ⟨A5, k5, e5, hN5⟩ := ho5.rows fun x hx => HOK.out x (sortI_mem.1 hx)
  obtain ⟨rfl, hj1, hj2⟩ := Value.slice.inj e5
  clear hj1 hj2 e5
  have CQ := Lib.hid (rsrch_any HDD.out w5 w.heap.size w3.heap.size (w.heap.size + 1) cap3 n k (some ⟨g3, 0, none⟩) (sortI F) pl (HR.out.call HDD.out hB5) HNE.out HRL.out HL2.out (by rw [sortI_len, HN.out]) (by omega) hN5 (sortI_sorted20 F) hX2 hY2 hZ2 HK.out)
  obtain ⟨b7, o7, e7, _, d7⟩ := hN5.at_ k q HBEST.out
  cases e7
  rw [Nat.zero_add] at d7
  have HB5 := Lib.hid hB5
  have HY5 := Lib.hid hY2
  have HD7 := Lib.hid d7
  clear hB4 hB5 hZ hnX hX2 hZ2 ho5 hg5 hN5 d7 CS HY4
  go_wp2_with fail
  with_reducible (refine CQ.out.mono ?_)
  rintro e w6 ⟨rfl, hb6⟩
  have d1 := cell_later hb6 HY5.out
  have d2 := cell_later hb6 HD7.out
  have kk : (k : Int) < (n : Int) := by omega
  have HB6 := Lib.hid (HB5.out.trans (hb6.mono HB5.out.size))
  clear hb6 CQ
  go_wp2_with fail
  go_ret
  exact ⟨rfl, HB6.out⟩
end Go.Proofs.Ytbdfmnlfdhhnjaa

/-
  The landed package req: Quantile.
-/
namespace Go.Proofs.Ytbdfmnlfdhhnjaa
set_option linter.unusedVariables false
set_option linter.unusedSimpArgs false
open Go.RowKit

theorem pl_none0 {a b : Int} (h : plE a b 0 = 0) : False := by
  cases hg : gdB a b with
  | false => rw [(pl_bad hg).2] at h; omega
  | true => rw [(pl_none hg).2] at h; omega
theorem pl_fit {a b n : Int} (wa : Word a) (wb : Word b) (wn : Word n) (h : plE a b n = 0) : 1 ≤ plV a b n ∧ plV a b n ≤ n := by
  cases hg : gdB a b with
  | false => rw [(pl_bad hg).2] at h; omega
  | true =>
    by_cases hn : n = 0
    · subst hn; exact (pl_none0 h).elim
    · have := pl_spec wa wb wn hg hn
      exact ⟨this.1, this.2.1⟩

set_option maxRecDepth 100000 in
set_option maxHeartbeats 4000000 in
theorem rq_quantile {Tp : TapT} (D : TapDoes Tp) {w : World} {P T : Nat} {B word low high : Int} {u : Nat} {hv : Value} {R : List RowI} {pa pb : Int} (h : RqRaw Tp w P T B word low high u hv R) (wa : Word pa) (wb : Word pb) (hne : R ≠ []) (hR : R.length ≤ 20) (hl : ∀ r, r ∈ R → r.l.length ≤ 2000) :
    Calls Try.prog 13 #[.pointer (some ⟨P, 0, none⟩), .agg #[.int .u64 pa, .int .u64 pb]] w fun e w' => e = .returned (.tuple #[.int .i64 (quanT pa pb (lsI R)).1, .int .i64 (quanT pa pb (lsI R)).2]) ∧ Below w.heap.size w w' := by
  obtain ⟨Q, hQ⟩ : ∃ Q, wtR (lsI R) = Q := ⟨_, rfl⟩
  have hQb : 0 ≤ Q ∧ Q ≤ 20971520000 := by
    obtain ⟨r1, r2⟩ := wt_bdq 20000 (R := lsI R) fun r hr => by
      obtain ⟨q, hq, rfl⟩ := List.mem_map.1 hr
      have := hl q hq
      omega
    have hp : 2 ^ (lsI R).length ≤ 2 ^ 20 := Nat.pow_le_pow_right (by decide) (by rw [ls_len]; omega)
    rw [hQ] at r1 r2
    refine ⟨r1, ?_⟩
    omega
  have wq : Word Q := ⟨hQb.1, by omega⟩
  have hc' := plE_nn pa pb Q
  have CT := Lib.hid (fun W (hb : Below w.heap.size w W) => rq_tot (h.call D hb) hne hR (fun r hr => by have := hl r hr; omega) hQ)
  have HPL := Lib.hid (fun W => place_any pa pb Q wa wb wq W)
  have hwt := pl_word (n := Q) wa wb wq
  have HQ : Hid (quanT pa pb (lsI R) = if plE pa pb Q = 0 then (bestQ (lsI R) (plV pa pb Q), 0) else (0, plE pa pb Q)) := Lib.hid (by unfold quanT; rw [hQ])
  have HPF := Lib.hid (fun e => pl_fit wa wb wq e)
  obtain ⟨t, htt⟩ : ∃ t, plV pa pb Q = t := ⟨_, rfl⟩
  obtain ⟨ec, hec⟩ : ∃ ec, plE pa pb Q = ec := ⟨_, rfl⟩
  rw [htt, hec] at HQ HPL HPF
  rw [htt] at hwt
  rw [hec] at hc'
  have HBW := Lib.hid (((Below.refl w.heap.size w).alloc (Nat.le_refl _) (.cells #[.int .u64 pa, .int .u64 pb] 27)).drew)
  have HS0 : Hid ((w.alloc (.cells #[.int .u64 pa, .int .u64 pb] 27)).drew.cell? ⟨w.heap.size, 0, none⟩ = some (.int .u64 pa) ∧ (w.alloc (.cells #[.int .u64 pa, .int .u64 pb] 27)).drew.cell? ⟨w.heap.size, 1, none⟩ = some (.int .u64 pb) ∧ Below w.heap.size w (w.alloc (.cells #[.int .u64 pa, .int .u64 pb] 27)).drew) := Lib.hid ⟨by go_simp, by go_simp, HBW.out⟩
  have HST := Lib.hid (fun (W W' : World) (h : W.cell? ⟨w.heap.size, 0, none⟩ = some (.int .u64 pa) ∧ W.cell? ⟨w.heap.size, 1, none⟩ = some (.int .u64 pb) ∧ Below w.heap.size w W) (hb : Below W.heap.size W W') => (⟨cell_later hb h.1, cell_later hb h.2.1, h.2.2.trans (hb.mono h.2.2.size)⟩ : W'.cell? ⟨w.heap.size, 0, none⟩ = some (.int .u64 pa) ∧ W'.cell? ⟨w.heap.size, 1, none⟩ = some (.int .u64 pb) ∧ Below w.heap.size w W'))
  by_cases z : ec = 0
  case neg =>
    have hq := HQ.out
    rw [if_neg z] at hq
    have HQ2 := Lib.hid hq
    have n1 : (!ec == 0) = true := by simp; exact z
    have zp : 0 < ec := by omega
    clear hq HQ hQ htt hec h D hne hR hl HPF
    go_enter Try.func13, Try.ntmps13
    go_wp2_with fail
    go_region_held3 (fun w' => w'.cell? ⟨w.heap.size, 0, none⟩ = some (.int .u64 pa) ∧ w'.cell? ⟨w.heap.size, 1, none⟩ = some (.int .u64 pb) ∧ Below w.heap.size w w')
      (first | exact HS0.out | exact HST.out _ _ (by assumption) hbA | assumption)
      ((first
        | (go_at_call 21; with_reducible refine (CT.out _ (And.right (And.right (by assumption)))).mono ?_; rintro e wA ⟨rfl, rfl⟩)
        | (go_at_call 36; with_reducible refine (HPL.out _).mono ?_; rintro e wA ⟨rfl, hbA⟩)))
    all_goals
      rename_i hHeld
      obtain ⟨_, _, b3⟩ := hHeld
      go_wp2_with fail
      go_ret2
      exact ⟨by rw [HQ2.out]; rfl, b3⟩
  case pos =>
    subst z
    have hq := HQ.out
    rw [if_pos rfl] at hq
    have HQ2 := Lib.hid hq
    obtain ⟨f1, f2⟩ := HPF.out rfl
    have CA := Lib.hid (fun W (hb : Below w.heap.size w W) => rq_at D (h.call D hb) hne hR hl f1 (by rw [hQ]; exact f2) rfl)
    obtain ⟨bb, hbb⟩ : ∃ bb, bestQ (lsI R) t = bb := ⟨_, rfl⟩
    rw [hbb] at HQ2 CA
    clear hq HQ hQ htt hec h D hne hR hl HPF f1 f2 hbb hc'
    obtain ⟨t0, t1⟩ := hwt
    go_enter Try.func13, Try.ntmps13
    go_wp2_with fail
    go_region_held3 (fun w' => w'.cell? ⟨w.heap.size, 0, none⟩ = some (.int .u64 pa) ∧ w'.cell? ⟨w.heap.size, 1, none⟩ = some (.int .u64 pb) ∧ Below w.heap.size w w')
      (first | exact HS0.out | exact HST.out _ _ (by assumption) hbA | assumption)
      ((first
        | (go_at_call 21; with_reducible refine (CT.out _ (And.right (And.right (by assumption)))).mono ?_; rintro e wA ⟨rfl, rfl⟩)
        | (go_at_call 36; with_reducible refine (HPL.out _).mono ?_; rintro e wA ⟨rfl, hbA⟩)))
    all_goals
      rename_i hHeld
      have HB3 := Lib.hid hHeld.2.2
      have CA2 := Lib.hid (CA.out _ HB3.out)
      clear hHeld
      go_wp2_with fail
      with_reducible (refine CA2.out.mono ?_)
      rintro e wB ⟨rfl, hbB⟩
      have HB4 := Lib.hid (HB3.out.trans (hbB.mono HB3.out.size))
      clear hbB
      go_wp2_with fail
      go_ret2
      exact ⟨by rw [HQ2.out]; rfl, HB4.out⟩

set_option maxHeartbeats 1000000 in
theorem rq_quantile_nil (w : World) (pa pb : Int) : Calls Try.prog 13 #[.pointer none, .agg #[.int .u64 pa, .int .u64 pb]] w fun e w' => e = .returned (.tuple #[.int .i64 0, .int .i64 2]) ∧ Below w.heap.size w w' := by
  have HB : Hid (Below w.heap.size w (w.alloc (.cells #[.int .u64 pa, .int .u64 pb] 27))) := Lib.hid ((Below.refl _ _).alloc (Nat.le_refl _) _)
  go_enter Try.func13, Try.ntmps13
  go_wp2_with fail
  go_ret2
  exact ⟨rfl, HB.out⟩
end Go.Proofs.Ytbdfmnlfdhhnjaa

/-
  The landed package req: Load, New. (Written by tools/gen_req_n.py.)
-/
namespace Go.Proofs.Ytbdfmnlfdhhnjaa
set_option linter.unusedVariables false
set_option linter.unusedSimpArgs false
open Go.RowKit

/-- A tower in a new block. -/
theorem raw_new {Tp : TapT} (D : TapDoes Tp) {w : World} {T g n base : Nat} {B word low high : Int} {u : Nat} {C : List RowI} (hL : LaidQ w base (.slice (some ⟨g, 0, none⟩) n n) C) (ht : Tp w T word u) (hT : T < base) :
    RqRaw Tp (w.alloc (.cells #[.int .i64 B, .int .u64 word, .slice (some ⟨g, 0, none⟩) n n, .pointer (some ⟨T, 0, none⟩), .int .i64 low, .int .i64 high] 79)) w.heap.size T B word low high u (.slice (some ⟨g, 0, none⟩) n n) C := by
  have hb : Below w.heap.size w (w.alloc (.cells #[.int .i64 B, .int .u64 word, .slice (some ⟨g, 0, none⟩) n n, .pointer (some ⟨T, 0, none⟩), .int .i64 low, .int .i64 high] 79)) := (Below.refl _ _).alloc (Nat.le_refl _) _
  have hg := hL.head.lt g rfl
  have hTl := D.lt _ _ _ _ ht
  refine { c0 := ?_, c1 := ?_, c2 := ?_, c3 := ?_, c4 := ?_, c5 := ?_, f0 := ?_, tape := D.call ht hb, head := (hL.head.mono (Nat.zero_le _)).call hb, nT := by omega, hP := ?_, hT := ?_, row := fun r hr => (hL.row r hr).call hb, far := fun r hr a ha => ?_, apart := hL.apart }
  · go_simp
  · go_simp
  · go_simp
  · go_simp
  · go_simp
  · go_simp
  · intro o; go_simp
  · intro e; have e' : g = w.heap.size := Option.some.inj e; omega
  · intro e; have e' : g = T := Option.some.inj e; omega
  · have h1 := hL.far r hr a ha
    have h2 := (hL.row r hr).lt a ha
    exact ⟨by omega, by omega, h1.2⟩
theorem takes_tow {B : Int} {L : List (List Int)} (h : TakesP B L) : TowI B L := by
  have hne : L ≠ [] := fun e => by have := h.some_; rw [e] at this; exact absurd this (by decide)
  refine ⟨hne, h.short, ?_, h.room⟩
  have key : ∀ (M : List (List Int)), (∀ r, M[M.length - 1]? = some r → r ≠ []) → okTop 4 M := by
    intro M
    induction M with
    | nil => intro _; exact trivial
    | cons q s ih =>
      intro hl
      by_cases hs : s = []
      · subst hs
        have h1 := List.length_pos_iff.2 (hl q rfl)
        show (4 : Int) ≤ 4 * (q.length : Int)
        omega
      · have hsl := List.length_pos_iff.2 hs
        refine (okTop_cons hs).2 (ih fun r hr => hl r ?_)
        rw [List.length_cons, show s.length + 1 - 1 = (s.length - 1) + 1 by omega, List.getElem?_cons_succ]
        exact hr
  cases L with
  | nil => exact absurd rfl hne
  | cons q s =>
    refine key s fun r hr => ?_
    have hsl : 0 < s.length := by
      by_cases c : 0 < s.length
      · exact c
      · have : s = [] := List.eq_nil_of_length_eq_zero (by omega)
        subst this
        simp at hr
    refine h.top (by rw [List.length_cons]; omega) r ?_
    rw [List.length_cons, show s.length + 1 - 1 = (s.length - 1) + 1 by omega, List.getElem?_cons_succ]
    exact hr

/-- What can't be is refused. -/
def RefQ (w : World) (e : Ending) (w' : World) : Prop := e = .returned (.tuple #[.pointer none, .int .i64 1]) ∧ Below w.heap.size w w'
/-- What can be is loaded. -/
def NewQ (Tp : TapT) (w : World) (B word : Int) (t : Tow) (f : Int × Int × Bool) (e : Ending) (w' : World) : Prop :=
  ∃ P S, e = .returned (.tuple #[.pointer (some ⟨P, 0, none⟩), .int .i64 0]) ∧ RqX Tp w' P S B word t f ∧ (∀ i, S i → w.heap.size ≤ i) ∧ Below w.heap.size w w'

set_option maxRecDepth 100000 in
set_option maxHeartbeats 2000000 in
theorem rq_load_bad {Tp : TapT} (D : TapDoes Tp) {w : World} {B word : Int} {A : Option Addr} {n cap : Nat} {used low high : Int} (hB : I64 B) (hw : Word word) (hg : goodQ B = false) :
    Calls Try.prog 32 #[.agg #[.int .i64 B, .int .u64 word], .slice A n cap, .int .i64 used, .int .i64 low, .int .i64 high] w fun e w' => RefQ w e w' := by
  have HAL : Hid (Below w.heap.size w (w.alloc (.cells #[.int .i64 B, .int .u64 word] 24))) := Lib.hid ((Below.refl _ _).alloc (Nat.le_refl _) _)
  obtain ⟨W0, W1⟩ := twoq_words w (.int .i64 B) (.int .u64 word) 24
  have CN := Lib.hid (fun W => D.new W word hw)
  have CG := Lib.hid (fun W => rq_good W B word hB)
  rw [hg] at CG
  have HW0 := Lib.hid W0
  have HW1 := Lib.hid W1
  clear D hB hw hg
  go_enter Try.func32, Try.ntmps32
  go_wp2_with fail
  with_reducible (refine (CN.out _).mono ?_)
  rintro e w1 ⟨T, rfl, ht, hT, hb1⟩
  have d0 := cell_later hb1 HW0.out
  have d1 := cell_later hb1 HW1.out
  have HB1 := Lib.hid (HAL.out.trans (hb1.mono HAL.out.size))
  clear hb1 W0 W1 CN
  go_wp2_with fail
  with_reducible (refine (CG.out _).mono ?_)
  rintro e w2 ⟨rfl, hb2⟩
  have HF : Hid (RefQ w (.returned (.tuple #[.pointer none, .int .i64 1])) w2) := Lib.hid ⟨rfl, HB1.out.trans (hb2.mono HB1.out.size)⟩
  clear hb2 CG
  go_wp2_with fail
  go_ret2
  exact HF.out

set_option maxRecDepth 100000 in
set_option maxHeartbeats 2000000 in
theorem rq_load_rows {Tp : TapT} (D : TapDoes Tp) {w : World} {B word : Int} {A : Option Addr} {n cap : Nat} {R : List RowI} {used low high : Int} (hg : goodQ B = true) (hw : Word word) (hR : RowsN w A R) (hn : R.length = n) (h20 : n ≤ 20) (hl : ∀ r, r ∈ R → r.l.length ≤ 70) (hno : ¬ TakesP B (lsI R)) :
    Calls Try.prog 32 #[.agg #[.int .i64 B, .int .u64 word], .slice A n cap, .int .i64 used, .int .i64 low, .int .i64 high] w fun e w' => RefQ w e w' := by
  have hyes : false = true ↔ TakesP B (lsI R) := ⟨fun h => (by cases h), fun h => absurd h hno⟩
  have HAL : Hid (Below w.heap.size w (w.alloc (.cells #[.int .i64 B, .int .u64 word] 24))) := Lib.hid ((Below.refl _ _).alloc (Nat.le_refl _) _)
  obtain ⟨W0, W1⟩ := twoq_words w (.int .i64 B) (.int .u64 word) 24
  obtain ⟨g4, g64, g0⟩ := goodQ_iff.1 hg
  have CN := Lib.hid (fun W => D.new W word hw)
  have CG := Lib.hid (fun W => rq_good W B word (by constructor <;> omega))
  rw [hg] at CG
  have CT := Lib.hid (fun W (hb : Below w.heap.size w W) => rq_takes W B word A n cap R false (by omega) g64 (hR.call hb) hn h20 (fun r hr => by have := hl r hr; omega) hyes)
  clear hyes
  have HW0 := Lib.hid W0
  have HW1 := Lib.hid W1
  have HG := Lib.hid hg
  have HW := Lib.hid hw
  have HR := Lib.hid hR
  have HN := Lib.hid hn
  have HL := Lib.hid hl
  have HDD := Lib.hid D
  clear D hw hg hR hn hl
  go_enter Try.func32, Try.ntmps32
  go_wp2_with fail
  with_reducible (refine (CN.out _).mono ?_)
  rintro e w1 ⟨T, rfl, ht, hT, hb1⟩
  have d0 := cell_later hb1 HW0.out
  have d1 := cell_later hb1 HW1.out
  have HB1 := Lib.hid (HAL.out.trans (hb1.mono HAL.out.size))
  have HTP := Lib.hid ht
  have HTB : Hid (w.heap.size + 1 ≤ T) := Lib.hid (by simpa using hT)
  clear hb1 W0 W1 CN ht hT
  go_wp2_with fail
  with_reducible (refine (CG.out _).mono ?_)
  rintro e w2 ⟨rfl, hb2⟩
  have e0 := cell_later hb2 d0
  have e1 := cell_later hb2 d1
  have HB2 := Lib.hid (HB1.out.trans (hb2.mono HB1.out.size))
  have HT2 := Lib.hid (HDD.out.call HTP.out hb2)
  have CT2 := Lib.hid (CT.out _ HB2.out)
  clear hb2 CG CT HTP d0 d1
  go_wp2_with fail
  with_reducible (refine CT2.out.mono ?_)
  rintro e w3 ⟨rfl, hb3⟩
  have HF : Hid (RefQ w (.returned (.tuple #[.pointer none, .int .i64 1])) w3) := Lib.hid ⟨rfl, HB2.out.trans (hb3.mono HB2.out.size)⟩
  clear hb3 CT2
  go_wp2_with fail
  go_ret2
  exact HF.out

set_option maxRecDepth 100000 in
set_option maxHeartbeats 2000000 in
theorem rq_load_back {Tp : TapT} (D : TapDoes Tp) {w : World} {B word : Int} {A : Option Addr} {n cap : Nat} {R : List RowI} {used low high : Int} (hg : goodQ B = true) (hw : Word word) (hR : RowsN w A R) (hn : R.length = n) (h20 : n ≤ 20) (hl : ∀ r, r ∈ R → r.l.length ≤ 70) (htk : TakesP B (lsI R)) (hu : I64 used) (hu0 : used < 0) :
    Calls Try.prog 32 #[.agg #[.int .i64 B, .int .u64 word], .slice A n cap, .int .i64 used, .int .i64 low, .int .i64 high] w fun e w' => RefQ w e w' := by
  have hyes : true = true ↔ TakesP B (lsI R) := ⟨fun _ => htk, fun _ => rfl⟩
  have HTK := Lib.hid htk
  clear htk
  have HAL : Hid (Below w.heap.size w (w.alloc (.cells #[.int .i64 B, .int .u64 word] 24))) := Lib.hid ((Below.refl _ _).alloc (Nat.le_refl _) _)
  obtain ⟨W0, W1⟩ := twoq_words w (.int .i64 B) (.int .u64 word) 24
  obtain ⟨g4, g64, g0⟩ := goodQ_iff.1 hg
  have CN := Lib.hid (fun W => D.new W word hw)
  have CG := Lib.hid (fun W => rq_good W B word (by constructor <;> omega))
  rw [hg] at CG
  have CT := Lib.hid (fun W (hb : Below w.heap.size w W) => rq_takes W B word A n cap R true (by omega) g64 (hR.call hb) hn h20 (fun r hr => by have := hl r hr; omega) hyes)
  clear hyes
  have HW0 := Lib.hid W0
  have HW1 := Lib.hid W1
  have HG := Lib.hid hg
  have HW := Lib.hid hw
  have HR := Lib.hid hR
  have HN := Lib.hid hn
  have HL := Lib.hid hl
  have HDD := Lib.hid D
  clear D hw hg hR hn hl
  go_enter Try.func32, Try.ntmps32
  go_wp2_with fail
  with_reducible (refine (CN.out _).mono ?_)
  rintro e w1 ⟨T, rfl, ht, hT, hb1⟩
  have d0 := cell_later hb1 HW0.out
  have d1 := cell_later hb1 HW1.out
  have HB1 := Lib.hid (HAL.out.trans (hb1.mono HAL.out.size))
  have HTP := Lib.hid ht
  have HTB : Hid (w.heap.size + 1 ≤ T) := Lib.hid (by simpa using hT)
  clear hb1 W0 W1 CN ht hT
  go_wp2_with fail
  with_reducible (refine (CG.out _).mono ?_)
  rintro e w2 ⟨rfl, hb2⟩
  have e0 := cell_later hb2 d0
  have e1 := cell_later hb2 d1
  have HB2 := Lib.hid (HB1.out.trans (hb2.mono HB1.out.size))
  have HT2 := Lib.hid (HDD.out.call HTP.out hb2)
  have CT2 := Lib.hid (CT.out _ HB2.out)
  clear hb2 CG CT HTP d0 d1
  go_wp2_with fail
  with_reducible (refine CT2.out.mono ?_)
  rintro e w3 ⟨rfl, hb3⟩
  have f0 := cell_later hb3 e0
  have f1 := cell_later hb3 e1
  have HB3 := Lib.hid (HB2.out.trans (hb3.mono HB2.out.size))
  have HT3 := Lib.hid (HDD.out.call HT2.out hb3)
  clear hb3 CT2 HT2 e0 e1
  have CS := Lib.hid (HDD.out.back w3 T word 0 used HT3.out hu hu0)
  go_wp2_with fail
  with_reducible (refine CS.out.mono ?_)
  rintro e w4 ⟨rfl, hb4⟩
  have HF : Hid (RefQ w (.returned (.tuple #[.pointer none, .int .i64 1])) w4) := Lib.hid ⟨rfl, HB3.out.trans (hb4.mono HB3.out.size)⟩
  clear hb4 CS
  go_wp2_with fail
  go_ret2
  exact HF.out

set_option maxRecDepth 100000 in
set_option maxHeartbeats 2000000 in
theorem rq_load_ends {Tp : TapT} (D : TapDoes Tp) {w : World} {B word : Int} {A : Option Addr} {n cap : Nat} {R : List RowI} {used : Nat} {low high : Int} (hg : goodQ B = true) (hw : Word word) (hR : RowsN w A R) (hn : R.length = n) (h20 : n ≤ 20) (hl : ∀ r, r ∈ R → r.l.length ≤ 70) (htk : TakesP B (lsI R)) (hu : I64 used) (hgt : high < low) :
    Calls Try.prog 32 #[.agg #[.int .i64 B, .int .u64 word], .slice A n cap, .int .i64 used, .int .i64 low, .int .i64 high] w fun e w' => RefQ w e w' := by
  obtain ⟨u0, u1⟩ := hu
  have hyes : true = true ↔ TakesP B (lsI R) := ⟨fun _ => htk, fun _ => rfl⟩
  have HTK := Lib.hid htk
  clear htk
  have HAL : Hid (Below w.heap.size w (w.alloc (.cells #[.int .i64 B, .int .u64 word] 24))) := Lib.hid ((Below.refl _ _).alloc (Nat.le_refl _) _)
  obtain ⟨W0, W1⟩ := twoq_words w (.int .i64 B) (.int .u64 word) 24
  obtain ⟨g4, g64, g0⟩ := goodQ_iff.1 hg
  have CN := Lib.hid (fun W => D.new W word hw)
  have CG := Lib.hid (fun W => rq_good W B word (by constructor <;> omega))
  rw [hg] at CG
  have CT := Lib.hid (fun W (hb : Below w.heap.size w W) => rq_takes W B word A n cap R true (by omega) g64 (hR.call hb) hn h20 (fun r hr => by have := hl r hr; omega) hyes)
  clear hyes
  have HW0 := Lib.hid W0
  have HW1 := Lib.hid W1
  have HG := Lib.hid hg
  have HW := Lib.hid hw
  have HR := Lib.hid hR
  have HN := Lib.hid hn
  have HL := Lib.hid hl
  have HDD := Lib.hid D
  clear D hw hg hR hn hl
  go_enter Try.func32, Try.ntmps32
  go_wp2_with fail
  with_reducible (refine (CN.out _).mono ?_)
  rintro e w1 ⟨T, rfl, ht, hT, hb1⟩
  have d0 := cell_later hb1 HW0.out
  have d1 := cell_later hb1 HW1.out
  have HB1 := Lib.hid (HAL.out.trans (hb1.mono HAL.out.size))
  have HTP := Lib.hid ht
  have HTB : Hid (w.heap.size + 1 ≤ T) := Lib.hid (by simpa using hT)
  clear hb1 W0 W1 CN ht hT
  go_wp2_with fail
  with_reducible (refine (CG.out _).mono ?_)
  rintro e w2 ⟨rfl, hb2⟩
  have e0 := cell_later hb2 d0
  have e1 := cell_later hb2 d1
  have HB2 := Lib.hid (HB1.out.trans (hb2.mono HB1.out.size))
  have HT2 := Lib.hid (HDD.out.call HTP.out hb2)
  have CT2 := Lib.hid (CT.out _ HB2.out)
  clear hb2 CG CT HTP d0 d1
  go_wp2_with fail
  with_reducible (refine CT2.out.mono ?_)
  rintro e w3 ⟨rfl, hb3⟩
  have f0 := cell_later hb3 e0
  have f1 := cell_later hb3 e1
  have HB3 := Lib.hid (HB2.out.trans (hb3.mono HB2.out.size))
  have HT3 := Lib.hid (HDD.out.call HT2.out hb3)
  clear hb3 CT2 HT2 e0 e1
  have CS := Lib.hid (HDD.out.skip w3 T word 0 used HT3.out (by omega))
  go_wp2_with fail
  with_reducible (refine CS.out.mono ?_)
  rintro e w4 ⟨rfl, ht4, hg4⟩
  have HTL := Lib.hid (HDD.out.lt _ _ _ _ HT3.out)
  have HB4 : Hid (Below w.heap.size w w4) := Lib.hid (HB3.out.grown hg4 HB3.out.size fun j hj => by
    have e : T = j := Option.some.inj hj
    have := HTB.out
    omega)
  have HF : Hid (RefQ w (.returned (.tuple #[.pointer none, .int .i64 1])) w4) := Lib.hid ⟨rfl, HB4.out⟩
  clear ht4 hg4 CS
  go_wp2_with fail
  go_ret2
  exact HF.out

set_option maxRecDepth 100000 in
set_option maxHeartbeats 2000000 in
theorem rq_load_none {Tp : TapT} (D : TapDoes Tp) {w : World} {B word : Int} {A : Option Addr} {n cap : Nat} {R : List RowI} {used : Nat} {low high : Int} (hg : goodQ B = true) (hw : Word word) (hR : RowsN w A R) (hn : R.length = n) (h20 : n ≤ 20) (hl : ∀ r, r ∈ R → r.l.length ≤ 70) (htk : TakesP B (lsI R)) (hu : I64 used) (hle : low ≤ high) (hz : wtR (lsI R) = 0) (hnz : ¬ (low = 0 ∧ high = 0)) :
    Calls Try.prog 32 #[.agg #[.int .i64 B, .int .u64 word], .slice A n cap, .int .i64 used, .int .i64 low, .int .i64 high] w fun e w' => RefQ w e w' := by
  obtain ⟨u0, u1⟩ := hu
  have nle : ¬ high < low := by omega
  have hyes : true = true ↔ TakesP B (lsI R) := ⟨fun _ => htk, fun _ => rfl⟩
  have HTK := Lib.hid htk
  clear htk
  have HAL : Hid (Below w.heap.size w (w.alloc (.cells #[.int .i64 B, .int .u64 word] 24))) := Lib.hid ((Below.refl _ _).alloc (Nat.le_refl _) _)
  obtain ⟨W0, W1⟩ := twoq_words w (.int .i64 B) (.int .u64 word) 24
  obtain ⟨g4, g64, g0⟩ := goodQ_iff.1 hg
  have CN := Lib.hid (fun W => D.new W word hw)
  have CG := Lib.hid (fun W => rq_good W B word (by constructor <;> omega))
  rw [hg] at CG
  have CT := Lib.hid (fun W (hb : Below w.heap.size w W) => rq_takes W B word A n cap R true (by omega) g64 (hR.call hb) hn h20 (fun r hr => by have := hl r hr; omega) hyes)
  clear hyes
  have HW0 := Lib.hid W0
  have HW1 := Lib.hid W1
  have HG := Lib.hid hg
  have HW := Lib.hid hw
  have HR := Lib.hid hR
  have HN := Lib.hid hn
  have HL := Lib.hid hl
  have HDD := Lib.hid D
  clear D hw hg hR hn hl
  go_enter Try.func32, Try.ntmps32
  go_wp2_with fail
  with_reducible (refine (CN.out _).mono ?_)
  rintro e w1 ⟨T, rfl, ht, hT, hb1⟩
  have d0 := cell_later hb1 HW0.out
  have d1 := cell_later hb1 HW1.out
  have HB1 := Lib.hid (HAL.out.trans (hb1.mono HAL.out.size))
  have HTP := Lib.hid ht
  have HTB : Hid (w.heap.size + 1 ≤ T) := Lib.hid (by simpa using hT)
  clear hb1 W0 W1 CN ht hT
  go_wp2_with fail
  with_reducible (refine (CG.out _).mono ?_)
  rintro e w2 ⟨rfl, hb2⟩
  have e0 := cell_later hb2 d0
  have e1 := cell_later hb2 d1
  have HB2 := Lib.hid (HB1.out.trans (hb2.mono HB1.out.size))
  have HT2 := Lib.hid (HDD.out.call HTP.out hb2)
  have CT2 := Lib.hid (CT.out _ HB2.out)
  clear hb2 CG CT HTP d0 d1
  go_wp2_with fail
  with_reducible (refine CT2.out.mono ?_)
  rintro e w3 ⟨rfl, hb3⟩
  have f0 := cell_later hb3 e0
  have f1 := cell_later hb3 e1
  have HB3 := Lib.hid (HB2.out.trans (hb3.mono HB2.out.size))
  have HT3 := Lib.hid (HDD.out.call HT2.out hb3)
  clear hb3 CT2 HT2 e0 e1
  have CS := Lib.hid (HDD.out.skip w3 T word 0 used HT3.out (by omega))
  go_wp2_with fail
  with_reducible (refine CS.out.mono ?_)
  rintro e w4 ⟨rfl, ht4, hg4⟩
  have HTL := Lib.hid (HDD.out.lt _ _ _ _ HT3.out)
  have HB4 : Hid (Below w.heap.size w w4) := Lib.hid (HB3.out.grown hg4 HB3.out.size fun j hj => by
    have e : T = j := Option.some.inj hj
    have := HTB.out
    omega)
  have CW := Lib.hid (rq_total w4 A n cap R (wtR (lsI R)) (HR.out.call HB4.out) HN.out h20 (fun r hr => by have := HL.out r hr; omega) rfl)
  obtain ⟨q, hq⟩ : ∃ q, wtR (lsI R) = q := ⟨_, rfl⟩
  rw [hq] at CW
  have HF : Hid (RefQ w (.returned (.tuple #[.pointer none, .int .i64 1])) w4) := Lib.hid ⟨rfl, HB4.out⟩
  obtain rfl : q = 0 := by rw [← hq]; exact hz
  clear ht4 hg4 CS hq hz
  by_cases hlz : low = 0
  · subst hlz
    have hlz : (0 : Int) = 0 := rfl
    have n2 : (high != 0) = true := by simp; exact fun e => hnz ⟨hlz, e⟩
    have n3 : ¬ high = 0 := fun e => hnz ⟨hlz, e⟩
    clear hlz hnz hle
    go_wp2_with fail
    with_reducible (refine CW.out.mono ?_)
    rintro e w5 ⟨rfl, rfl⟩
    go_wp2_with fail
    go_ret2
    exact HF.out
  · have n1 : (low != 0) = true := by simp; exact hlz
    clear hlz hnz hle
    go_wp2_with fail
    with_reducible (refine CW.out.mono ?_)
    rintro e w5 ⟨rfl, rfl⟩
    go_wp2_with fail
    go_ret2
    exact HF.out

set_option maxRecDepth 100000 in
set_option maxHeartbeats 4000000 in
theorem rq_load {Tp : TapT} (D : TapDoes Tp) {w : World} {B word : Int} {A : Option Addr} {n cap : Nat} {R : List RowI} {used : Nat} {low high : Int} (hg : goodQ B = true) (hw : Word word) (hR : RowsN w A R) (hn : R.length = n) (h20 : n ≤ 20) (hl : ∀ r, r ∈ R → r.l.length ≤ 70) (hu : I64 used) (hld : LoadQ B (lsI R) used low high) :
    Calls Try.prog 32 #[.agg #[.int .i64 B, .int .u64 word], .slice A n cap, .int .i64 used, .int .i64 low, .int .i64 high] w fun e w' => NewQ Tp w B word (lsI R, used) (endsQ (wtR (lsI R)) low high) e w' := by
  obtain ⟨u0, u1⟩ := hu
  obtain ⟨fe, hfe⟩ : ∃ fe, endsQ (wtR (lsI R)) low high = fe := ⟨_, rfl⟩
  rw [hfe]
  have HFE := Lib.hid hfe
  clear hfe
  have htk : TakesP B (lsI R) := ⟨hld.some_, hld.few, hld.top, hld.short, hld.room⟩
  have nle : ¬ high < low := by have := hld.ends; omega
  have HLZ := Lib.hid hld.none_
  have hyes : true = true ↔ TakesP B (lsI R) := ⟨fun _ => htk, fun _ => rfl⟩
  have HTK := Lib.hid htk
  clear htk
  have HAL : Hid (Below w.heap.size w (w.alloc (.cells #[.int .i64 B, .int .u64 word] 24))) := Lib.hid ((Below.refl _ _).alloc (Nat.le_refl _) _)
  obtain ⟨W0, W1⟩ := twoq_words w (.int .i64 B) (.int .u64 word) 24
  obtain ⟨g4, g64, g0⟩ := goodQ_iff.1 hg
  have CN := Lib.hid (fun W => D.new W word hw)
  have CG := Lib.hid (fun W => rq_good W B word (by constructor <;> omega))
  rw [hg] at CG
  have CT := Lib.hid (fun W (hb : Below w.heap.size w W) => rq_takes W B word A n cap R true (by omega) g64 (hR.call hb) hn h20 (fun r hr => by have := hl r hr; omega) hyes)
  clear hyes
  have HW0 := Lib.hid W0
  have HW1 := Lib.hid W1
  have HG := Lib.hid hg
  have HW := Lib.hid hw
  have HR := Lib.hid hR
  have HN := Lib.hid hn
  have HL := Lib.hid hl
  have HDD := Lib.hid D
  clear D hw hg hR hn hl
  go_enter Try.func32, Try.ntmps32
  go_wp2_with fail
  with_reducible (refine (CN.out _).mono ?_)
  rintro e w1 ⟨T, rfl, ht, hT, hb1⟩
  have d0 := cell_later hb1 HW0.out
  have d1 := cell_later hb1 HW1.out
  have HB1 := Lib.hid (HAL.out.trans (hb1.mono HAL.out.size))
  have HTP := Lib.hid ht
  have HTB : Hid (w.heap.size + 1 ≤ T) := Lib.hid (by simpa using hT)
  clear hb1 W0 W1 CN ht hT
  go_wp2_with fail
  with_reducible (refine (CG.out _).mono ?_)
  rintro e w2 ⟨rfl, hb2⟩
  have e0 := cell_later hb2 d0
  have e1 := cell_later hb2 d1
  have HB2 := Lib.hid (HB1.out.trans (hb2.mono HB1.out.size))
  have HT2 := Lib.hid (HDD.out.call HTP.out hb2)
  have CT2 := Lib.hid (CT.out _ HB2.out)
  clear hb2 CG CT HTP d0 d1
  go_wp2_with fail
  with_reducible (refine CT2.out.mono ?_)
  rintro e w3 ⟨rfl, hb3⟩
  have f0 := cell_later hb3 e0
  have f1 := cell_later hb3 e1
  have HB3 := Lib.hid (HB2.out.trans (hb3.mono HB2.out.size))
  have HT3 := Lib.hid (HDD.out.call HT2.out hb3)
  clear hb3 CT2 HT2 e0 e1
  have CS := Lib.hid (HDD.out.skip w3 T word 0 used HT3.out (by omega))
  go_wp2_with fail
  with_reducible (refine CS.out.mono ?_)
  rintro e w4 ⟨rfl, ht4, hg4⟩
  have HTL := Lib.hid (HDD.out.lt _ _ _ _ HT3.out)
  have HB4 : Hid (Below w.heap.size w w4) := Lib.hid (HB3.out.grown hg4 HB3.out.size fun j hj => by
    have e : T = j := Option.some.inj hj
    have := HTB.out
    omega)
  have CW := Lib.hid (rq_total w4 A n cap R (wtR (lsI R)) (HR.out.call HB4.out) HN.out h20 (fun r hr => by have := HL.out r hr; omega) rfl)
  obtain ⟨q, hq⟩ : ∃ q, wtR (lsI R) = q := ⟨_, rfl⟩
  rw [hq] at CW
  have hne0 : T ≠ w.heap.size := by have := HTB.out; omega
  have k0 : w4.cell? ⟨w.heap.size, 0, none⟩ = some (.int .i64 B) := hg4.cell f0 (fun e => hne0 (Option.some.inj e).symm)
  have k1 : w4.cell? ⟨w.heap.size, 1, none⟩ = some (.int .u64 word) := hg4.cell f1 (fun e => hne0 (Option.some.inj e).symm)
  have HT4 := Lib.hid ht4
  have HTL4 := Lib.hid (HDD.out.lt _ _ _ _ ht4)
  have HQ := Lib.hid hq
  have HLZ2 : Hid (q = 0 → low = 0 ∧ high = 0) := Lib.hid fun e => HLZ.out (by rw [hq]; exact e)
  clear ht4 hg4 CS hq hld f0 f1 hne0 HT3
  by_cases hz : q = 0
  · obtain ⟨rfl, rfl⟩ := HLZ2.out hz
    subst hz
    go_wp2_with fail
    with_reducible (refine CW.out.mono ?_)
    rintro e w5 ⟨rfl, rfl⟩
    have HCC := Lib.hid (fun (W : World) (hb : Below w4.heap.size w4 W) => rq_copied W A n cap R ((HR.out.call HB4.out).call hb) HN.out (by omega) (fun r hr => by have := HL.out r hr; omega))
    clear CW
    go_wp2_with fail
    go_region_with (go_at_call 47; (with_reducible (refine (HCC.out _ (by first | exact Below.refl _ _ | exact (Below.refl _ _).drew)).mono ?_)); rintro e w6 ⟨gC, C, rfl, hLC, hls, hCn, hb6⟩; have p0 := cell_later hb6 k0; have p1 := cell_later hb6 k1)
    all_goals
      have hb6' : Below w4.heap.size w4 w6 := by first | exact hb6 | exact (Below.refl _ _).drew.trans hb6
      have hLC' : LaidQ w6 w4.heap.size (.slice (some ⟨gC, 0, none⟩) n n) C := hLC
      have ht6 := HDD.out.call HT4.out hb6'
      have hb6w := HB4.out.trans (hb6'.mono HB4.out.size)
      have hr7 := raw_new (B := B) (low := 0) (high := 0) HDD.out hLC' ht6 HTL4.out
      have HFN : Hid (∀ w7, Below (w6.alloc (.cells #[.int .i64 B, .int .u64 word, .slice (some ⟨gC, 0, none⟩) n n, .pointer (some ⟨T, 0, none⟩), .int .i64 0, .int .i64 0] 79)).heap.size (w6.alloc (.cells #[.int .i64 B, .int .u64 word, .slice (some ⟨gC, 0, none⟩) n n, .pointer (some ⟨T, 0, none⟩), .int .i64 0, .int .i64 0] 79)) w7 → NewQ Tp w B word (lsI R, used) fe (.returned (.tuple #[.pointer (some ⟨w6.heap.size, 0, none⟩), .int .i64 0])) w7) := Lib.hid fun w7 hb7 => ⟨w6.heap.size, rgQ w6.heap.size T (.slice (some ⟨gC, 0, none⟩) n n) C, rfl, ⟨T, 0, 0, _, C, hr7.call HDD.out hb7, hls, fun k => Iff.rfl, HG.out, HW.out, takes_tow HTK.out, HFE.out⟩, by
          have z1 := hb6w.size
          have z2 := HB4.out.size
          have z3 := HTB.out
          rintro i (rfl | rfl | e | ⟨r, hr, a, ha, rfl⟩)
          · omega
          · omega
          · have h9 := (hLC'.head.lt i e).1; omega
          · have h9 := (hLC'.far r hr a ha).1; omega, (hb6w.alloc hb6w.size _).trans (hb7.mono (Nat.le_trans hb6w.size (by simp)))⟩
      clear hr7 ht6 hLC hLC' hls hCn hb6 hb6' hb6w
      go_wp2_with fail
      go_ret2
      first | exact HFN.out _ (Below.refl _ _) | exact HFN.out _ (Below.refl _ _).drew
  · have n0 : (q == 0) = false := by rw [beq_eq_false_iff_ne]; exact hz
    go_wp2_with fail
    with_reducible (refine CW.out.mono ?_)
    rintro e w5 ⟨rfl, rfl⟩
    have HCC := Lib.hid (fun (W : World) (hb : Below w4.heap.size w4 W) => rq_copied W A n cap R ((HR.out.call HB4.out).call hb) HN.out (by omega) (fun r hr => by have := HL.out r hr; omega))
    clear CW
    go_wp2_with fail
    go_region_with (go_at_call 47; (with_reducible (refine (HCC.out _ (by first | exact Below.refl _ _ | exact (Below.refl _ _).drew)).mono ?_)); rintro e w6 ⟨gC, C, rfl, hLC, hls, hCn, hb6⟩; have p0 := cell_later hb6 k0; have p1 := cell_later hb6 k1)
    all_goals
      have hb6' : Below w4.heap.size w4 w6 := by first | exact hb6 | exact (Below.refl _ _).drew.trans hb6
      have hLC' : LaidQ w6 w4.heap.size (.slice (some ⟨gC, 0, none⟩) n n) C := hLC
      have ht6 := HDD.out.call HT4.out hb6'
      have hb6w := HB4.out.trans (hb6'.mono HB4.out.size)
      have hr7 := raw_new (B := B) (low := low) (high := high) HDD.out hLC' ht6 HTL4.out
      have HFN : Hid (∀ w7, Below (w6.alloc (.cells #[.int .i64 B, .int .u64 word, .slice (some ⟨gC, 0, none⟩) n n, .pointer (some ⟨T, 0, none⟩), .int .i64 low, .int .i64 high] 79)).heap.size (w6.alloc (.cells #[.int .i64 B, .int .u64 word, .slice (some ⟨gC, 0, none⟩) n n, .pointer (some ⟨T, 0, none⟩), .int .i64 low, .int .i64 high] 79)) w7 → NewQ Tp w B word (lsI R, used) fe (.returned (.tuple #[.pointer (some ⟨w6.heap.size, 0, none⟩), .int .i64 0])) w7) := Lib.hid fun w7 hb7 => ⟨w6.heap.size, rgQ w6.heap.size T (.slice (some ⟨gC, 0, none⟩) n n) C, rfl, ⟨T, low, high, _, C, hr7.call HDD.out hb7, hls, fun k => Iff.rfl, HG.out, HW.out, takes_tow HTK.out, HFE.out⟩, by
          have z1 := hb6w.size
          have z2 := HB4.out.size
          have z3 := HTB.out
          rintro i (rfl | rfl | e | ⟨r, hr, a, ha, rfl⟩)
          · omega
          · omega
          · have h9 := (hLC'.head.lt i e).1; omega
          · have h9 := (hLC'.far r hr a ha).1; omega, (hb6w.alloc hb6w.size _).trans (hb7.mono (Nat.le_trans hb6w.size (by simp)))⟩
      clear hr7 ht6 hLC hLC' hls hCn hb6 hb6' hb6w
      go_wp2_with fail
      go_ret2
      first | exact HFN.out _ (Below.refl _ _) | exact HFN.out _ (Below.refl _ _).drew

set_option maxRecDepth 100000 in
set_option maxHeartbeats 2000000 in
theorem rq_new {Tp : TapT} (D : TapDoes Tp) {w : World} {B word : Int} (hg : goodQ B = true) (hw : Word word) : Calls Try.prog 29 #[.agg #[.int .i64 B, .int .u64 word]] w fun e w' => NewQ Tp w B word newT (0, 0, false) e w' := by
  obtain ⟨g4, g64, g0⟩ := goodQ_iff.1 hg
  have HAL : Hid (Below w.heap.size w (w.alloc (.cells #[.int .i64 B, .int .u64 word] 24))) := Lib.hid ((Below.refl _ _).alloc (Nat.le_refl _) _)
  obtain ⟨W0, W1⟩ := twoq_words w (.int .i64 B) (.int .u64 word) 24
  obtain ⟨W2, hW2⟩ : ∃ W2, w.alloc (.cells #[.int .i64 B, .int .u64 word] 24) = W2 := ⟨_, rfl⟩
  have HA2 : Hid (Below W2.heap.size W2 (W2.alloc (.cells #[.slice none 0 0] 62))) := Lib.hid ((Below.refl _ _).alloc (Nat.le_refl _) _)
  have hz : W2.heap.size = w.heap.size + 1 := by rw [← hW2]; simp
  have hN : RowsN (W2.alloc (.cells #[.slice none 0 0] 62)) (some ⟨W2.heap.size, 0, none⟩) [⟨none, [], 0⟩] := ⟨fun i r hi => by
    match i, hi with
    | 0, hi =>
      have e := Option.some.inj hi
      subst e
      exact ⟨_, 0, rfl, by simp, by go_simp⟩
    | i + 1, hi => simp at hi, fun r hr => by rw [List.mem_singleton.1 hr]; exact Nums.nil _ _⟩
  have CL := Lib.hid (show Calls Try.prog 32 #[.agg #[.int .i64 B, .int .u64 word], .slice (some ⟨W2.heap.size, 0, none⟩) 1 1, .int .i64 0, .int .i64 0, .int .i64 0] (W2.alloc (.cells #[.slice none 0 0] 62)) _ from rq_load D (used := 0) (low := 0) (high := 0) (cap := 1) hg hw hN rfl (by decide) (fun r hr => by rw [List.mem_singleton.1 hr]; exact Nat.zero_le _) ⟨by decide, by decide⟩
    { some_ := Nat.le_refl _, few := by show 1 ≤ 16; decide, short := fun r hr => (by rw [List.mem_singleton.1 hr]; show (0 : Int) < B; omega), top := fun h => absurd h (by show ¬ 1 < 1; decide), room := (by show (0 : Int) + 2 * 0 ≤ B * 1024; omega), use := Int.le_refl _, ends := Int.le_refl _, none_ := fun _ => ⟨rfl, rfl⟩ })
  rw [hW2] at HAL W0 W1
  have HSZ := Lib.hid (HAL.out.trans (HA2.out.mono HAL.out.size))
  rw [hz] at CL
  clear D hg hw hN
  go_enter Try.func29, Try.ntmps29
  go_wp2_with fail
  with_reducible (refine CL.out.mono ?_)
  rintro e w4 ⟨P, S, rfl, hx, hS, hb4⟩
  have HF : Hid (NewQ Tp w B word newT (0, 0, false) (.returned (.tuple #[.pointer (some ⟨P, 0, none⟩), .int .i64 0])) w4) := Lib.hid ⟨P, S, rfl, hx, fun i hi => Nat.le_trans HSZ.out.size (hS i hi), HSZ.out.trans (hb4.mono HSZ.out.size)⟩
  clear hx hS hb4 CL
  go_wp2_with fail
  go_ret2
  exact HF.out

set_option maxRecDepth 100000 in
set_option maxHeartbeats 2000000 in
theorem rq_new_bad {Tp : TapT} (D : TapDoes Tp) {w : World} {B word : Int} (hB : I64 B) (hw : Word word) (hg : goodQ B = false) : Calls Try.prog 29 #[.agg #[.int .i64 B, .int .u64 word]] w fun e w' => RefQ w e w' := by
  have HAL : Hid (Below w.heap.size w (w.alloc (.cells #[.int .i64 B, .int .u64 word] 24))) := Lib.hid ((Below.refl _ _).alloc (Nat.le_refl _) _)
  obtain ⟨W0, W1⟩ := twoq_words w (.int .i64 B) (.int .u64 word) 24
  obtain ⟨W2, hW2⟩ : ∃ W2, w.alloc (.cells #[.int .i64 B, .int .u64 word] 24) = W2 := ⟨_, rfl⟩
  have HA2 : Hid (Below W2.heap.size W2 (W2.alloc (.cells #[.slice none 0 0] 62))) := Lib.hid ((Below.refl _ _).alloc (Nat.le_refl _) _)
  have hz : W2.heap.size = w.heap.size + 1 := by rw [← hW2]; simp
  have CL := Lib.hid (show Calls Try.prog 32 #[.agg #[.int .i64 B, .int .u64 word], .slice (some ⟨W2.heap.size, 0, none⟩) 1 1, .int .i64 0, .int .i64 0, .int .i64 0] (W2.alloc (.cells #[.slice none 0 0] 62)) _ from rq_load_bad D hB hw hg)
  rw [hW2] at HAL W0 W1
  have HSZ := Lib.hid (HAL.out.trans (HA2.out.mono HAL.out.size))
  rw [hz] at CL
  clear D hg hw hB
  go_enter Try.func29, Try.ntmps29
  go_wp2_with fail
  with_reducible (refine CL.out.mono ?_)
  rintro e w4 ⟨rfl, hb4⟩
  have HF : Hid (RefQ w (.returned (.tuple #[.pointer none, .int .i64 1])) w4) := Lib.hid ⟨rfl, HSZ.out.trans (hb4.mono HSZ.out.size)⟩
  clear hb4 CL
  go_wp2_with fail
  go_ret2
  exact HF.out
end Go.Proofs.Ytbdfmnlfdhhnjaa

/-
  The landed package coins: a tape of coins.
-/
namespace Go.Proofs.Ytbdfmnlfdhhnjaa
set_option linter.unusedVariables false
set_option linter.unusedSimpArgs false
open Go.RowKit

/-- A tape in memory: its word, and how many coins were used. -/
def TapX : TapT := fun w B x k => Two w B (.int .u64 x) (.int .i64 (k : Int))
theorem tapx_keep (w w' : World) (B : Nat) (x : Int) (k : Nat) (h : TapX w B x k) (hb : w'.heap[B]? = w.heap[B]?) : TapX w' B x k :=
  ⟨(World.cell?_of_block (a := ⟨B, 0, none⟩) hb).trans h.c0, (World.cell?_of_block (a := ⟨B, 1, none⟩) hb).trans h.c1, (World.frozen?_of_block (a := ⟨B, 0, none⟩) hb).trans h.f0, (World.frozen?_of_block (a := ⟨B, 1, none⟩) hb).trans h.f1⟩
theorem tapx_put {w : World} {B : Nat} {x : Int} {k : Nat} (h : TapX w B x k) (u : Nat) : TapX (w.setCell ⟨B, 1, none⟩ (.int .i64 (u : Int))) B x u := by
  refine ⟨?_, World.cell?_setCell_same _ _ _ h.c1, ?_, ?_⟩
  · rw [World.cell?_setCell_other _ _ _ _ (two_off (by omega))]; exact h.c0
  · rw [World.frozen?_setCell]; exact h.f0
  · rw [World.frozen?_setCell]; exact h.f1
theorem tapx_grown (w : World) (B : Nat) (v : Value) : w.grownBy (w.setCell ⟨B, 1, none⟩ v) (some B) :=
  ⟨rfl, rfl, rfl, by simp [World.setCell], fun k _ hr => Below.heap_setCell w _ _ k (fun e => hr (by rw [e]))⟩

theorem tap_new (w : World) (x : Int) (hx : Word x) : Calls Try.prog 52 #[.int .u64 x] w fun e w' => ∃ B, e = .returned (.pointer (some ⟨B, 0, none⟩)) ∧ TapX w' B x 0 ∧ w.heap.size ≤ B ∧ Below w.heap.size w w' := by
  have HT : Hid (TapX (w.alloc (.cells #[.int .u64 x, .int .i64 0] 102)) w.heap.size x 0) := Lib.hid (Two.new _ _ _ _)
  go_enter Try.func52, Try.ntmps52
  go_wp2_with fail
  go_ret
  exact ⟨_, rfl, HT.out, Nat.le_refl _, (Below.refl _ _).alloc (Nat.le_refl _) _⟩

set_option maxHeartbeats 1000000 in
theorem tap_next (w : World) (B : Nat) (x : Int) (k : Nat) (h : TapX w B x k) (hx : Word x) (hk : (k : Int) < 4611686018427387904) : Calls Try.prog 66 #[.pointer (some ⟨B, 0, none⟩)] w fun e w' => e = .returned (.bool (coinB x k)) ∧ TapX w' B x (k + 1) ∧ w.grownBy w' (some B) := by
  obtain ⟨r, hr⟩ : ∃ r : Nat, k % 64 = r := ⟨_, rfl⟩
  have hr64 : r < 64 := by omega
  have t1 : ((k : Int)).tmod 64 = (r : Int) := by rw [Int.tmod_eq_emod_of_nonneg (by omega)]; omega
  have t2 : ((k : Int)) % 64 = (r : Int) := by omega
  obtain ⟨x0, x1⟩ := hx
  obtain ⟨q, hq⟩ : ∃ q, x / ((2 ^ r : Nat) : Int) = q := ⟨_, rfl⟩
  have hp := Nat.two_pow_pos r
  have q0 : 0 ≤ q := by rw [← hq]; exact Int.ediv_nonneg x0 (by omega)
  have q1 : q < 18446744073709551616 := by rw [← hq]; exact Int.lt_of_le_of_lt (Int.ediv_le_self _ x0) x1
  have hs : Op.shift .shr .u64 x .u64 (r : Int) = pure (.int .u64 q) := by
    rw [shift_shr_any _ _ _ _ (by omega), ← hq]
    have e : min (r : Int).toNat IntKind.u64.bits = r := by
      have : IntKind.u64.bits = 64 := rfl
      rw [this]; omega
    rw [e, Int.natCast_pow]; rfl
  have HC : Hid (coinB x k = (bits .and .u64 (x / 2 ^ r) 1 == 1)) := Lib.hid (by
    have e : x / 2 ^ r = q := by rw [← hq, Int.natCast_pow]; rfl
    rw [e, and_one q0 q1]
    unfold coinB; rw [hr, hq])
  have kw : IntKind.u64.wrap (k : Int) = k := by rw [IntKind.wrap_u64]; omega
  have kp : wrap64 ((k : Int) + 1) = ((k + 1 : Nat) : Int) := by unfold wrap64; omega
  have HF : Hid (TapX (w.setCell ⟨B, 1, none⟩ (.int .i64 ((k + 1 : Nat) : Int))) B x (k + 1)) := Lib.hid (tapx_put h _)
  have c0 := h.c0
  have c1 := h.c1
  have f1 := h.f1
  clear h hq hr hp
  go_enter Try.func66, Try.ntmps66
  go_wp2_with fail
  go_ret
  exact ⟨ret_bool HC.out.symm, HF.out, tapx_grown _ _ _⟩

theorem tap_used (w : World) (B : Nat) (x : Int) (k : Nat) (h : TapX w B x k) : Calls Try.prog 48 #[.pointer (some ⟨B, 0, none⟩)] w fun e w' => e = .returned (.int .i64 k) ∧ Below w.heap.size w w' := by
  have c1 := h.c1
  clear h
  go_enter Try.func48, Try.ntmps48
  go_wp2_with fail
  go_ret
  exact ⟨rfl, Below.refl _ _⟩

theorem tap_skip (w : World) (B : Nat) (x : Int) (k u : Nat) (h : TapX w B x k) (hu : (u : Int) < 9223372036854775808) : Calls Try.prog 55 #[.pointer (some ⟨B, 0, none⟩), .int .i64 u] w fun e w' => e = .returned (.bool true) ∧ TapX w' B x u ∧ w.grownBy w' (some B) := by
  have n0 : ¬ (u : Int) < 0 := by omega
  have HF : Hid (TapX (w.setCell ⟨B, 1, none⟩ (.int .i64 (u : Int))) B x u) := Lib.hid (tapx_put h _)
  have c1 := h.c1
  have f1 := h.f1
  clear h
  go_enter Try.func55, Try.ntmps55
  go_wp2_with fail
  go_ret
  exact ⟨rfl, HF.out, tapx_grown _ _ _⟩

theorem tap_back (w : World) (B : Nat) (x : Int) (k : Nat) (u : Int) (h : TapX w B x k) (hu : I64 u) (h0 : u < 0) : Calls Try.prog 55 #[.pointer (some ⟨B, 0, none⟩), .int .i64 u] w fun e w' => e = .returned (.bool false) ∧ Below w.heap.size w w' := by
  clear h
  go_enter Try.func55, Try.ntmps55
  go_wp2_with fail
  go_ret
  exact ⟨rfl, Below.refl _ _⟩

theorem tap_next0 (w : World) : Calls Try.prog 66 #[.pointer none] w fun e w' => e = .returned (.bool false) ∧ Below w.heap.size w w' := by
  go_enter Try.func66, Try.ntmps66
  go_wp2_with fail
  go_ret
  exact ⟨rfl, Below.refl _ _⟩

theorem tap_used0 (w : World) : Calls Try.prog 48 #[.pointer none] w fun e w' => e = .returned (.int .i64 0) ∧ Below w.heap.size w w' := by
  go_enter Try.func48, Try.ntmps48
  go_wp2_with fail
  go_ret
  exact ⟨rfl, Below.refl _ _⟩

theorem tap_skip0 (w : World) (u : Int) (hu : I64 u) : Calls Try.prog 55 #[.pointer none, .int .i64 u] w fun e w' => e = .returned (.bool false) ∧ Below w.heap.size w w' := by
  go_enter Try.func55, Try.ntmps55
  go_wp2_with fail
  go_ret
  exact ⟨rfl, Below.refl _ _⟩

theorem tap_does : TapDoes TapX where
  keep := tapx_keep
  lt := fun w B x k h => Two.lt h
  new := tap_new
  next := tap_next
  used := tap_used
  skip := tap_skip
  back := tap_back

theorem tap_nil : TapNil where
  next := tap_next0
  used := tap_used0
  skip := tap_skip0

end Go.Proofs.Ytbdfmnlfdhhnjaa

/-
  Package coins as it landed: all that the laws lean on.
-/

/-
  Package req as it landed: all that the laws lean on.
-/
namespace Go.Proofs.Ytbdfmnlfdhhnjaa
set_option linter.unusedVariables false
set_option linter.unusedSimpArgs false
open Go.RowKit

/-- At block P lies a tower, over tapes as they landed. -/
abbrev RqU : RqT := RqX TapX
theorem rqu_keep (w w' : World) (P : Nat) (S : Nat → Prop) (B word : Int) (t : Tow) (e : Int × Int × Bool) (h : RqU w P S B word t e) (hk : ∀ i, S i → w'.heap[i]? = w.heap[i]?) : RqU w' P S B word t e := by
  obtain ⟨T, low, high, hv, R, hraw, hL, hS, rest⟩ := h
  exact ⟨T, low, high, hv, R, hraw.at_ tap_does fun k hk' => hk k ((hS k).2 hk'), hL, hS, rest⟩
theorem rqu_lt (w : World) (P : Nat) (S : Nat → Prop) (B word : Int) (t : Tow) (e : Int × Int × Bool) (h : RqU w P S B word t e) : ∀ i, S i → i < w.heap.size := by
  obtain ⟨T, low, high, hv, R, hraw, hL, hS, rest⟩ := h
  exact fun i hi => hraw.blocks tap_does i ((hS i).1 hi)
theorem rqu_total (w : World) (P : Nat) (S : Nat → Prop) (B word : Int) (t : Tow) (e : Int × Int × Bool) (h : RqU w P S B word t e) : Calls Try.prog 21 #[.pointer (some ⟨P, 0, none⟩)] w fun r w' => r = .returned (.int .u64 (wtR t.1)) ∧ Below w.heap.size w w' := by
  obtain ⟨T, low, high, hv, R, hraw, hL, hS, hg, hw, hi, he⟩ := h
  obtain ⟨s1, s2, s3, s4⟩ := hraw.smalls hL hi (goodQ_iff.1 hg).2.1
  exact (rq_tot hraw s1 (by omega) (fun r hr => by have := s3 r hr; omega) (by rw [hL])).mono fun r w' hx => ⟨hx.1, by rw [← hx.2]; exact Below.refl _ _⟩
theorem rqu_most (w : World) (P : Nat) (S : Nat → Prop) (B word : Int) (t : Tow) (e : Int × Int × Bool) (h : RqU w P S B word t e) : Calls Try.prog 23 #[.pointer (some ⟨P, 0, none⟩)] w fun r w' => r = .returned (.int .u64 (B * 1024)) ∧ Below w.heap.size w w' := by
  obtain ⟨T, low, high, hv, R, hraw, hL, hS, hg, hw, hi, he⟩ := h
  obtain ⟨g4, g64, g0⟩ := goodQ_iff.1 hg
  exact rq_most (by omega) g64 hraw.c0 hraw.c1
theorem rqu_config (w : World) (P : Nat) (S : Nat → Prop) (B word : Int) (t : Tow) (e : Int × Int × Bool) (h : RqU w P S B word t e) : Calls Try.prog 22 #[.pointer (some ⟨P, 0, none⟩)] w fun r w' => r = .returned (.agg #[.int .i64 B, .int .u64 word]) ∧ Below w.heap.size w w' := by
  obtain ⟨T, low, high, hv, R, hraw, _⟩ := h
  exact rq_config hraw.c0 hraw.c1
theorem rqu_used (w : World) (P : Nat) (S : Nat → Prop) (B word : Int) (t : Tow) (e : Int × Int × Bool) (h : RqU w P S B word t e) : Calls Try.prog 26 #[.pointer (some ⟨P, 0, none⟩)] w fun r w' => r = .returned (.int .i64 t.2) ∧ Below w.heap.size w w' := by
  obtain ⟨T, low, high, hv, R, hraw, _⟩ := h
  exact rq_used tap_does hraw
theorem rqu_ends (w : World) (P : Nat) (S : Nat → Prop) (B word : Int) (t : Tow) (x y : Int) (z : Bool) (h : RqU w P S B word t (x, y, z)) : Calls Try.prog 15 #[.pointer (some ⟨P, 0, none⟩)] w fun r w' => r = .returned (.tuple #[.int .i64 x, .int .i64 y, .bool z]) ∧ Below w.heap.size w w' := by
  obtain ⟨T, low, high, hv, R, hraw, hL, hS, hg, hw, hi, he⟩ := h
  obtain ⟨s1, s2, s3, s4⟩ := hraw.smalls hL hi (goodQ_iff.1 hg).2.1
  exact rq_ends hraw s1 (by omega) (fun r hr => by have := s3 r hr; omega) (by rw [hL]) he
theorem rqu_rank (w : World) (P : Nat) (S : Nat → Prop) (B word : Int) (t : Tow) (e : Int × Int × Bool) (x : Int) (h : RqU w P S B word t e) (hx : I64 x) : Calls Try.prog 19 #[.pointer (some ⟨P, 0, none⟩), .int .i64 x] w fun r w' => r = .returned (.int .u64 (rankR x t.1)) ∧ Below w.heap.size w w' := by
  obtain ⟨T, low, high, hv, R, hraw, hL, hS, hg, hw, hi, he⟩ := h
  obtain ⟨s1, s2, s3, s4⟩ := hraw.smalls hL hi (goodQ_iff.1 hg).2.1
  exact (rq_rank hraw s1 (by omega) (fun r hr => by have := s3 r hr; omega) (by rw [hL])).mono fun r w' hx => ⟨hx.1, by rw [← hx.2]; exact Below.refl _ _⟩
theorem rqu_quantile (w : World) (P : Nat) (S : Nat → Prop) (B word : Int) (t : Tow) (e : Int × Int × Bool) (pa pb : Int) (h : RqU w P S B word t e) (wa : Word pa) (wb : Word pb) : Calls Try.prog 13 #[.pointer (some ⟨P, 0, none⟩), .agg #[.int .u64 pa, .int .u64 pb]] w fun r w' => r = .returned (.tuple #[.int .i64 (quanT pa pb t.1).1, .int .i64 (quanT pa pb t.1).2]) ∧ Below w.heap.size w w' := by
  obtain ⟨T, low, high, hv, R, hraw, hL, hS, hg, hw, hi, he⟩ := h
  obtain ⟨s1, s2, s3, s4⟩ := hraw.smalls hL hi (goodQ_iff.1 hg).2.1
  have := rq_quantile tap_does hraw wa wb s1 (by omega) (fun r hr => by have := s3 r hr; omega)
  rw [hL] at this
  exact this
theorem rqu_rows (w : World) (P : Nat) (S : Nat → Prop) (B word : Int) (t : Tow) (e : Int × Int × Bool) (h : RqU w P S B word t e) : Calls Try.prog 25 #[.pointer (some ⟨P, 0, none⟩)] w fun r w' => ∃ A c R, r = .returned (.slice A (List.length R) c) ∧ RowsN w' A R ∧ lsI R = t.1 ∧ Below w.heap.size w w' := by
  obtain ⟨T, low, high, hv, R, hraw, hL, hS, hg, hw, hi, he⟩ := h
  obtain ⟨s1, s2, s3, s4⟩ := hraw.smalls hL hi (goodQ_iff.1 hg).2.1
  refine (rq_rows hraw s1 (by omega) (fun r hr => by have := s3 r hr; omega)).mono ?_
  rintro r w' ⟨g, C, rfl, hl, hls, hC, hb⟩
  refine ⟨some ⟨g, 0, none⟩, R.length, C, by rw [hC], ?_, hls.trans hL, hb⟩
  obtain ⟨A, cap, e1, hN⟩ := hl.rowsN
  rw [hC] at e1
  obtain ⟨e2, _, _⟩ := Value.slice.inj e1
  rw [e2]
  exact hN
theorem load_parts {B : Int} {L : List (List Int)} {used low high : Int} (h : ¬ LoadQ B L used low high) : ¬ TakesP B L ∨ (TakesP B L ∧ used < 0) ∨ (TakesP B L ∧ 0 ≤ used ∧ high < low) ∨ (TakesP B L ∧ 0 ≤ used ∧ low ≤ high ∧ wtR L = 0 ∧ ¬ (low = 0 ∧ high = 0)) := by
  by_cases c1 : TakesP B L
  · by_cases c2 : used < 0
    · exact Or.inr (Or.inl ⟨c1, c2⟩)
    · by_cases c3 : high < low
      · exact Or.inr (Or.inr (Or.inl ⟨c1, by omega, c3⟩))
      · by_cases c4 : wtR L = 0
        · by_cases c5 : low = 0 ∧ high = 0
          · exact absurd ⟨c1.some_, c1.few, c1.short, c1.top, c1.room, by omega, by omega, fun _ => c5⟩ h
          · exact Or.inr (Or.inr (Or.inr ⟨c1, by omega, by omega, c4, c5⟩))
        · exact absurd ⟨c1.some_, c1.few, c1.short, c1.top, c1.room, by omega, by omega, fun e => absurd e c4⟩ h
  · exact Or.inl c1
theorem rqu_unfit (w : World) (B word : Int) (A : Option Addr) (n c : Nat) (R : List RowI) (used low high : Int) (hg : goodQ B = true) (hw : Word word) (hR : RowsN w A R) (hn : R.length = n) (h20 : n ≤ 20) (hu : I64 used) (hlo : I64 low) (hhi : I64 high) (hl : ∀ r, r ∈ R → r.l.length ≤ 70) (hno : ¬ LoadQ B (lsI R) used low high) : Calls Try.prog 32 #[.agg #[.int .i64 B, .int .u64 word], .slice A n c, .int .i64 used, .int .i64 low, .int .i64 high] w fun r w' => r = .returned (.tuple #[.pointer none, .int .i64 1]) ∧ Below w.heap.size w w' := by
  rcases load_parts hno with h1 | ⟨h1, h2⟩ | ⟨h1, h2, h3⟩ | ⟨h1, h2, h3, h4, h5⟩
  · exact rq_load_rows tap_does hg hw hR hn h20 hl h1
  · exact rq_load_back tap_does hg hw hR hn h20 hl h1 hu h2
  · obtain ⟨m, rfl⟩ := Int.eq_ofNat_of_zero_le h2
    exact rq_load_ends tap_does hg hw hR hn h20 hl h1 hu h3
  · obtain ⟨m, rfl⟩ := Int.eq_ofNat_of_zero_le h2
    exact rq_load_none tap_does hg hw hR hn h20 hl h1 hu h3 h4 h5
theorem rqu_load (w : World) (B word : Int) (A : Option Addr) (n c : Nat) (R : List RowI) (used : Nat) (low high : Int) (hg : goodQ B = true) (hw : Word word) (hR : RowsN w A R) (hn : R.length = n) (hu : I64 used) (hlo : I64 low) (hhi : I64 high) (hl : ∀ r, r ∈ R → r.l.length ≤ 70) (hld : LoadQ B (lsI R) used low high) : Calls Try.prog 32 #[.agg #[.int .i64 B, .int .u64 word], .slice A n c, .int .i64 used, .int .i64 low, .int .i64 high] w fun r w' => ∃ P S, r = .returned (.tuple #[.pointer (some ⟨P, 0, none⟩), .int .i64 0]) ∧ RqU w' P S B word (lsI R, used) (if wtR (lsI R) = 0 then (0, 0, false) else (low, high, true)) ∧ (∀ i, S i → w.heap.size ≤ i) ∧ Below w.heap.size w w' :=
  rq_load tap_does hg hw hR hn (by have := hld.few; rw [ls_len] at this; omega) hl hu hld

theorem rq_does : RqDoes RqU where
  keep := rqu_keep
  lt := rqu_lt
  new := fun w B word hg hw => rq_new tap_does hg hw
  bad := fun w B word hB hw hg => rq_new_bad tap_does hB hw hg
  total := rqu_total
  most := rqu_most
  config := rqu_config
  used := rqu_used
  ends := rqu_ends
  rank := rqu_rank
  quantile := rqu_quantile
  rows := rqu_rows
  put := fun w P S B word t e x c h hx hc hc2 hr hu => rq_put tap_does row_does h hx hc hc2 hr hu
  zero := fun w P S B word t e x h hx => rq_put_zero w P x
  long := fun w P S B word t e x c h hx hc h1 => rq_put_long w P x c h1
  full := fun w P S B word t e x c h hx hc h1 h2 => rq_put_full tap_does h hc h1 h2
  join := fun w P S B word t e P' S' word' t' e' h h' hd hr hu => rq_join tap_does row_does h h' hd hr hu
  match_ := fun w P S B word t e P' S' B' word' t' e' h h' hne => rq_join_match h h' hne
  join_nil := fun w P S B word t e h => rq_join_nil w _ (Or.inr ⟨P, rfl⟩)
  load := rqu_load
  unfit := rqu_unfit

theorem rq_nil : RqNil where
  ends := rq_ends_nil
  quantile := fun w pa pb _ _ => rq_quantile_nil w pa pb
  put := fun w x c _ _ => rq_put_nil w x c
  join := fun w => rq_join_nil w _ (Or.inl rfl)
  total := rq_tot_nil
  most := rq_most_nil
  rank := fun w x _ => rq_rank_nil w x
  rows := rq_rows_nil
  used := rq_used_nil
  config := rq_config_nil

end Go.Proofs.Ytbdfmnlfdhhnjaa

/-
  How an argument of the laws is opened, and shut again: a wide number, a fraction, a word.
-/
namespace Go.Proofs.Ytbdfmnlfdhhnjaa
set_option linter.unusedVariables false
set_option maxRecDepth 100000
open Go.ChangeShapes Go.WideShapes Go.ChangeAt Go.RowKit Go.Joins

theorem own : ownKnob Try.prog.godebug = none := by kernel_rfl
theorem laidOut : laidOutB Try.prog = true := by kernel_rfl
theorem word_of_wf {x : Int} (h : (Lit.int .u64 x).wf = true) : Word x := by
  simp [Lit.wf, IntKind.min, IntKind.max, IntKind.signed, IntKind.bits] at h
  exact ⟨by omega, by omega⟩
theorem cellsWide : Try.prog.cellsOf 107 = 2 := by kernel_rfl
theorem wide_reads {H : Type} {enc : TypeId × Value → H} {a b : Int} (wa : (Lit.int .u64 a).wf = true) (wb : (Lit.int .u64 b).wf = true) (W' : World) (sp : Nat → Bool) :
    DataW.Trod enc Try.prog W' 0 sp true 107 (.agg #[.int .u64 a, .int .u64 b]) (.agg [.lit (.int .u64 a), .lit (.int .u64 b)]) [] :=
  shut_agg2 (y0 := (.lit (.int .u64 a), [])) (y1 := (.lit (.int .u64 b), [])) Try.underlying107 (by kernel_rfl) cellsWide ⟨1, by simp [DataW.trod, Try.underlying22, wa]⟩ ⟨1, by simp [DataW.trod, Try.underlying22, wb]⟩
theorem wide_opens {H : Type} {enc : TypeId × Value → H} {W : World} {r : Reach} {b0 : Nat} {sp : Nat → Bool} {v : Value} {d : DataW H} {p : List MemPlace} (hv : Value.okWide Try.prog W r b0 107 v) (h : DataW.Trod enc Try.prog W 0 sp true 107 v d p) :
    ∃ a b : Int, v = .agg #[.int .u64 a, .int .u64 b] ∧ d = .agg [.lit (.int .u64 a), .lit (.int .u64 b)] ∧ p = [] ∧ (Lit.int .u64 a).wf = true ∧ (Lit.int .u64 b).wf = true := by
  obtain ⟨c0, c1, y0, y1, m, rfl, rfl, rfl, hy0, hy1⟩ := open_agg2 Try.underlying107 (by kernel_rfl) cellsWide hv h
  obtain ⟨a, e0, rfl, wa⟩ := DataW.trod_int Try.underlying22 hy0
  obtain ⟨b, e1, rfl, wb⟩ := DataW.trod_int Try.underlying22 hy1
  simp at e0 e1
  subst e0 e1
  exact ⟨a, b, rfl, rfl, rfl, wa, wb⟩
theorem cellsRatio : Try.prog.cellsOf 27 = 2 := by kernel_rfl
theorem ratio_reads {H : Type} {enc : TypeId × Value → H} {a b : Int} (wa : (Lit.int .u64 a).wf = true) (wb : (Lit.int .u64 b).wf = true) (W' : World) (sp : Nat → Bool) :
    DataW.Trod enc Try.prog W' 0 sp true 27 (.agg #[.int .u64 a, .int .u64 b]) (.agg [.lit (.int .u64 a), .lit (.int .u64 b)]) [] :=
  shut_agg2 (y0 := (.lit (.int .u64 a), [])) (y1 := (.lit (.int .u64 b), [])) Try.underlying27 (by kernel_rfl) cellsRatio ⟨1, by simp [DataW.trod, Try.underlying22, wa]⟩ ⟨1, by simp [DataW.trod, Try.underlying22, wb]⟩
theorem ratio_opens {H : Type} {enc : TypeId × Value → H} {W : World} {r : Reach} {b0 : Nat} {sp : Nat → Bool} {v : Value} {d : DataW H} {p : List MemPlace} (hv : Value.okWide Try.prog W r b0 27 v) (h : DataW.Trod enc Try.prog W 0 sp true 27 v d p) :
    ∃ a b : Int, v = .agg #[.int .u64 a, .int .u64 b] ∧ d = .agg [.lit (.int .u64 a), .lit (.int .u64 b)] ∧ p = [] ∧ (Lit.int .u64 a).wf = true ∧ (Lit.int .u64 b).wf = true := by
  obtain ⟨c0, c1, y0, y1, m, rfl, rfl, rfl, hy0, hy1⟩ := open_agg2 Try.underlying27 (by kernel_rfl) cellsRatio hv h
  obtain ⟨a, e0, rfl, wa⟩ := DataW.trod_int Try.underlying22 hy0
  obtain ⟨b, e1, rfl, wb⟩ := DataW.trod_int Try.underlying22 hy1
  simp at e0 e1
  subst e0 e1
  exact ⟨a, b, rfl, rfl, rfl, wa, wb⟩
end Go.Proofs.Ytbdfmnlfdhhnjaa

/-
  Arguments of stage 18 opened: rows of steps, rows of tuples.
-/
namespace Go.Proofs.Ytbdfmnlfdhhnjaa
set_option linter.unusedVariables false
set_option linter.unusedSimpArgs false
set_option maxRecDepth 100000
open Go.ChangeShapes Go.WideShapes Go.ChangeAt Go.RowKit Go.Joins

theorem deep18 (a : Addr) (i j : Nat) : (a.add i).add j = a.add (i + j) := Go.Deep.add_add a i j
def okSt (x : StepV) : Prop := I64 x.x ∧ Word x.lim
/-- A row of steps in memory. -/
structure Stps (w : World) (A : Option Addr) (L : List StepV) : Prop where
  ok : ∀ x, x ∈ L → okSt x
  at_ : ∀ (i : Nat) (x : StepV), L[i]? = some x → ∃ b off, A = some ⟨b, off, none⟩ ∧ b < w.heap.size ∧ w.cell? ⟨b, off + i * 3, none⟩ = some (.int .i64 x.x) ∧ w.cell? ⟨b, off + i * 3 + 1, none⟩ = some (.int .u64 x.lim) ∧ w.cell? ⟨b, off + i * 3 + 2, none⟩ = some (.bool x.sq)
theorem Stps.call {w w' : World} {A : Option Addr} {L : List StepV} (h : Stps w A L) (hb : Below w.heap.size w w') : Stps w' A L :=
  ⟨h.ok, fun i it hi => by
    obtain ⟨b, off, hA, hlt, c0, c1, c2⟩ := h.at_ i it hi
    exact ⟨b, off, hA, Nat.lt_of_lt_of_le hlt hb.size, cell_later hb c0, cell_later hb c1, cell_later hb c2⟩⟩
theorem Stps.grown {w w' : World} {A : Option Addr} {L : List StepV} (h : Stps w A L) {base : Nat} {r : Option Nat} (hb : ∀ b off s, A = some ⟨b, off, s⟩ → b < base) (hr : ∀ g, r = some g → base ≤ g) (hg : w.grownBy w' r) : Stps w' A L :=
  ⟨h.ok, fun i it hi => by
    obtain ⟨b, off, hA, hlt, c0, c1, c2⟩ := h.at_ i it hi
    have e := hg.block b hlt (fun e => by have h1 := hb b off none hA; have h2 := hr b e.symm; omega)
    exact ⟨b, off, hA, Nat.lt_of_lt_of_le hlt hg.size, (World.cell?_of_block (a := ⟨b, off + i * 3, none⟩) e).trans c0, (World.cell?_of_block (a := ⟨b, off + i * 3 + 1, none⟩) e).trans c1, (World.cell?_of_block (a := ⟨b, off + i * 3 + 2, none⟩) e).trans c2⟩⟩
theorem Stps.nil (w : World) : Stps w none [] := ⟨fun p h => (by cases h), fun i p h => by simp at h⟩

end Go.Proofs.Ytbdfmnlfdhhnjaa
/-
  Arguments of stage 19 opened: rows of values, rows of whole numbers. (tools/gen_gw_o.py, out of ValO)
-/
namespace Go.Proofs.Ytbdfmnlfdhhnjaa
set_option linter.unusedVariables false
set_option linter.unusedSimpArgs false
set_option maxRecDepth 100000
open Go.ChangeShapes Go.WideShapes Go.ChangeAt Go.RowKit Go.Joins

theorem cellsVal19 : Try.prog.cellsOf 70 = 2 := by kernel_rfl
theorem bytesVal19 : Try.prog.bytesOf 70 = 16 := by kernel_rfl
/-- Two cells that read as a pair. -/
theorem open_val19 {H : Type} {enc : TypeId × Value → H} {W : World} {base n : Nat} {spare : Nat → Bool} {held : Bool} {ad : Addr} {cs : List Value} {d : DataW H} {pl : List MemPlace}
    (hc : W.cells? base ad 2 = some cs) (h : DataW.trod enc Try.prog W base spare held n 70 cs = some (d, pl)) :
    ∃ p : PairV, okP p ∧ W.cell? (ad.add 0) = some (.int .i64 p.1) ∧ W.cell? (ad.add 1) = some (.int .u64 p.2) := by
  obtain ⟨_, hl, hat⟩ := World.cells?_some hc
  obtain ⟨ys, m, _, hx, _, hyl, hf⟩ := DataW.trod_struct Try.underlying70 h
  match cs, hl with
  | [x0, x1], _ =>
    have h0 := hf 0 _ rfl
    have h1 := hf 1 _ rfl
    match ys, hyl with
    | [y0, y1], _ =>
      obtain ⟨i, e0, r0, w0⟩ := DataW.trod_int Try.underlying2 h0
      obtain ⟨c, e1, r1, w1⟩ := DataW.trod_int Try.underlying22 h1
      have g0 : [x0] = [.int .i64 i] := e0
      have g1 : [x1] = [.int .u64 c] := e1
      simp only [List.cons.injEq, and_true] at g0 g1
      subst g0 g1
      exact ⟨(i, c), ⟨i64_of_wf w0, word_of_wf w1⟩, hat 0 (by omega), hat 1 (by omega)⟩
/-- Cells that read as a row of pairs. -/
theorem open_vrow19 {H : Type} {enc : TypeId × Value → H} {W : World} {n : Nat} {cs : List Value} {d : DataW H} {pl : List MemPlace}
    (hf : DataW.trod enc Try.prog W 0 (fun _ => true) true n 25 cs = some (d, pl)) (hz : ∀ n ∈ DataW.weights Try.prog 25 d, n ≤ reachBytes) :
    ∃ A cap L, cs = [.slice A (List.length L) cap] ∧ Pairs W A L ∧ L.length ≤ 140737488351232 := by
  rcases Go.Deep.open_slice Try.underlying25 hf with ⟨hcs, hx⟩ | ⟨a, len, cap, m, n, D, Pl, hcs, _, hl, hm, hmm, hx, hi⟩
  · exact ⟨none, 0, [], hcs, Pairs.nil W, Nat.zero_le _⟩
  · simp only [if_true] at hmm
    obtain rfl : cap = m := hmm.symm
    simp only [Prod.mk.injEq] at hx
    obtain ⟨rfl, rfl⟩ := hx
    have hw : DataW.weights Try.prog 25 (.slice ((List.range len).map D) ((List.range (cap - len)).map fun j => D (len + j))) =
        (((List.range len).map D).length + ((List.range (cap - len)).map fun j => D (len + j)).length) * Try.prog.bytesOf 70 ::
        (DataW.weightsAll Try.prog 70 ((List.range len).map D) ++ DataW.weightsAll Try.prog 70 ((List.range (cap - len)).map fun j => D (len + j))) := by
      conv => lhs; unfold DataW.weights
      rw [Try.underlying25]
    have hlen : len ≤ 140737488351232 := by
      have := hz _ (by rw [hw]; exact List.mem_cons_self)
      rw [bytesVal19] at this
      simp only [List.length_map, List.length_range, reachBytes] at this
      omega
    have hall : ∀ i, i < len → ∃ p : PairV, okP p ∧ W.cell? (a.add (i * 2)) = some (.int .i64 p.1) ∧ W.cell? (a.add (i * 2 + 1)) = some (.int .u64 p.2) := by
      intro i hi'
      obtain ⟨cs', hc, ht⟩ := hi i (by omega)
      rw [cellsVal19] at hc
      obtain ⟨p, i1, c0, c1⟩ := open_val19 hc ht
      rw [deep18] at c0 c1
      exact ⟨p, i1, c0, c1⟩
    obtain ⟨f, hf'⟩ := Go.Deep.choose_lt hall
    refine ⟨some a, cap, (List.range len).map f, by rw [hcs]; simp, ⟨?_, ?_⟩, by simpa using hlen⟩
    · intro p hp
      obtain ⟨i, hi1, rfl⟩ := List.mem_map.1 hp
      exact (hf' i (List.mem_range.1 hi1)).1
    · intro i p hp
      have hil : i < len := by
        rcases Nat.lt_or_ge i len with h | h
        · exact h
        · rw [List.getElem?_eq_none (by simpa using h)] at hp; cases hp
      simp only [List.getElem?_map, List.getElem?_range hil, Option.map_some, Option.some.injEq] at hp
      subst hp
      obtain ⟨_, c0, c1⟩ := hf' i hil
      obtain ⟨b, off, spot⟩ := a
      have hspot : spot = none := by
        have z0 := (hf' 0 (by omega)).2.1
        simpa [Addr.add] using World.cell?_spot z0
      subst hspot
      have hb : b < W.heap.size := by
        have := World.block_lt_of_cell? W _ c0
        revert this; unfold Addr.add; split <;> simp
      refine ⟨b, off, rfl, hb, ?_, ?_⟩
      · rw [← add_flat]; exact c0
      · rw [Nat.add_assoc, ← add_flat]; exact c1

theorem open_vals19 {H : Type} {enc : TypeId × Value → H} {W : World} {base : Nat} {v : Value} {d : DataW H} {p : List MemPlace}
    (hv : Value.okWide Try.prog W .any base 25 v) (h : DataW.Trod enc Try.prog W 0 (fun _ => true) true 25 v d p)
    (hz : ∀ n ∈ DataW.weights Try.prog 25 d, n ≤ reachBytes) :
    ∃ A cap L, v = .slice A (List.length L) cap ∧ Pairs W A L ∧ L.length ≤ 140737488351232 := by
  obtain ⟨a0, len, cap, rfl⟩ := okWide_slice Try.underlying25 hv
  obtain ⟨fuel, hf⟩ := h
  obtain ⟨A, cap', L, hcs, hP, hl⟩ := open_vrow19 hf hz
  simp [Value.cells] at hcs
  obtain ⟨rfl, rfl, rfl⟩ := hcs
  exact ⟨_, _, L, rfl, hP, hl⟩

theorem cellsInt19 : Try.prog.cellsOf 2 = 1 := by kernel_rfl
theorem bytesInt19 : Try.prog.bytesOf 2 = 8 := by kernel_rfl
/-- A cell that reads as a whole number. -/
theorem open_num19 {H : Type} {enc : TypeId × Value → H} {W : World} {base n : Nat} {spare : Nat → Bool} {held : Bool} {ad : Addr} {cs : List Value} {d : DataW H} {pl : List MemPlace}
    (hc : W.cells? base ad 1 = some cs) (h : DataW.trod enc Try.prog W base spare held n 2 cs = some (d, pl)) :
    ∃ x : Int, I64 x ∧ W.cell? (ad.add 0) = some (.int .i64 x) := by
  obtain ⟨_, hl, hat⟩ := World.cells?_some hc
  obtain ⟨x, e0, r0, w0⟩ := DataW.trod_int Try.underlying2 h
  subst e0
  exact ⟨x, i64_of_wf w0, hat 0 (by omega)⟩
/-- Cells that read as a row of whole numbers. -/
theorem open_nrow19 {H : Type} {enc : TypeId × Value → H} {W : World} {n : Nat} {cs : List Value} {d : DataW H} {pl : List MemPlace}
    (hf : DataW.trod enc Try.prog W 0 (fun _ => true) true n 62 cs = some (d, pl)) (hz : ∀ n ∈ DataW.weights Try.prog 62 d, n ≤ reachBytes) :
    ∃ A cap L, cs = [.slice A (List.length L) cap] ∧ Nums W A L ∧ L.length ≤ 140737488351232 := by
  rcases Go.Deep.open_slice Try.underlying62 hf with ⟨hcs, hx⟩ | ⟨a, len, cap, m, n, D, Pl, hcs, _, hl, hm, hmm, hx, hi⟩
  · exact ⟨none, 0, [], hcs, Nums.nil W none, Nat.zero_le _⟩
  · simp only [if_true] at hmm
    obtain rfl : cap = m := hmm.symm
    simp only [Prod.mk.injEq] at hx
    obtain ⟨rfl, rfl⟩ := hx
    have hw : DataW.weights Try.prog 62 (.slice ((List.range len).map D) ((List.range (cap - len)).map fun j => D (len + j))) =
        (((List.range len).map D).length + ((List.range (cap - len)).map fun j => D (len + j)).length) * Try.prog.bytesOf 2 ::
        (DataW.weightsAll Try.prog 2 ((List.range len).map D) ++ DataW.weightsAll Try.prog 2 ((List.range (cap - len)).map fun j => D (len + j))) := by
      conv => lhs; unfold DataW.weights
      rw [Try.underlying62]
    have hlen : len ≤ 140737488351232 := by
      have := hz _ (by rw [hw]; exact List.mem_cons_self)
      rw [bytesInt19] at this
      simp only [List.length_map, List.length_range, reachBytes] at this
      omega
    have hall : ∀ i, i < len → ∃ x : Int, I64 x ∧ W.cell? (a.add i) = some (.int .i64 x) := by
      intro i hi'
      obtain ⟨cs', hc, ht⟩ := hi i (by omega)
      rw [cellsInt19] at hc
      obtain ⟨x, i1, c0⟩ := open_num19 hc ht
      rw [deep18, Nat.mul_one] at c0
      exact ⟨x, i1, c0⟩
    obtain ⟨f, hf'⟩ := Go.Deep.choose_lt hall
    refine ⟨some a, cap, (List.range len).map f, by rw [hcs]; simp, ⟨?_, ?_⟩, by simpa using hlen⟩
    · intro p hp
      obtain ⟨i, hi1, rfl⟩ := List.mem_map.1 hp
      exact (hf' i (List.mem_range.1 hi1)).1
    · intro i p hp
      have hil : i < len := by
        rcases Nat.lt_or_ge i len with h | h
        · exact h
        · rw [List.getElem?_eq_none (by simpa using h)] at hp; cases hp
      simp only [List.getElem?_map, List.getElem?_range hil, Option.map_some, Option.some.injEq] at hp
      subst hp
      obtain ⟨_, c0⟩ := hf' i hil
      obtain ⟨b, off, spot⟩ := a
      have hspot : spot = none := by
        have z0 := (hf' 0 (by omega)).2
        simpa [Addr.add] using World.cell?_spot z0
      subst hspot
      have hb : b < W.heap.size := by
        have := World.block_lt_of_cell? W _ c0
        revert this; unfold Addr.add; split <;> simp
      refine ⟨b, off, rfl, hb, ?_⟩
      rw [← flat3]; exact c0

theorem open_nums19 {H : Type} {enc : TypeId × Value → H} {W : World} {base : Nat} {v : Value} {d : DataW H} {p : List MemPlace}
    (hv : Value.okWide Try.prog W .any base 62 v) (h : DataW.Trod enc Try.prog W 0 (fun _ => true) true 62 v d p)
    (hz : ∀ n ∈ DataW.weights Try.prog 62 d, n ≤ reachBytes) :
    ∃ A cap L, v = .slice A (List.length L) cap ∧ Nums W A L ∧ L.length ≤ 140737488351232 := by
  obtain ⟨a0, len, cap, rfl⟩ := okWide_slice Try.underlying62 hv
  obtain ⟨fuel, hf⟩ := h
  obtain ⟨A, cap', L, hcs, hP, hl⟩ := open_nrow19 hf hz
  simp [Value.cells] at hcs
  obtain ⟨rfl, rfl, rfl⟩ := hcs
  exact ⟨_, _, L, rfl, hP, hl⟩
end Go.Proofs.Ytbdfmnlfdhhnjaa

/-
  Arguments of stage 21 opened: configurations, rows of rows of whole numbers. (Written by tools/gen_req_ar.py.)
-/
namespace Go.Proofs.Ytbdfmnlfdhhnjaa
set_option linter.unusedVariables false
set_option linter.unusedSimpArgs false
set_option maxRecDepth 100000
open Go.ChangeShapes Go.WideShapes Go.ChangeAt Go.RowKit Go.Joins

theorem cellsRow21 : Try.prog.cellsOf 62 = 1 := by kernel_rfl

theorem bytesRow21 : Try.prog.bytesOf 62 = 24 := by kernel_rfl

theorem open_rows21 {H : Type} {enc : TypeId × Value → H} {W : World} {base : Nat} {v : Value} {d : DataW H} {p : List MemPlace}
    (hv : Value.okWide Try.prog W .any base 49 v) (h : DataW.Trod enc Try.prog W 0 (fun _ => true) true 49 v d p)
    (hz : ∀ n ∈ DataW.weights Try.prog 49 d, n ≤ reachBytes) :
    ∃ A cap R, v = .slice A (List.length R) cap ∧ RowsN W A R ∧ R.length ≤ 140737488351232 ∧ ∀ r, r ∈ R → r.l.length ≤ 140737488351232 := by
  obtain ⟨a0, len, cap, rfl⟩ := okWide_slice Try.underlying49 hv
  obtain ⟨fuel, hf⟩ := h
  rcases Go.Deep.open_slice Try.underlying49 hf with ⟨hcs, hx⟩ | ⟨a, len', cap', m, n, D, Pl, hcs, _, hl, hm, hmm, hx, hi⟩
  · simp [Value.cells] at hcs
    obtain ⟨rfl, rfl, rfl⟩ := hcs
    exact ⟨none, 0, [], rfl, ⟨fun i r hi => by simp at hi, fun r hr => (by cases hr)⟩, Nat.zero_le _, fun r hr => (by cases hr)⟩
  · simp [Value.cells] at hcs
    obtain ⟨rfl, rfl, rfl⟩ := hcs
    simp only [if_true] at hmm
    obtain rfl : cap = m := hmm.symm
    simp only [Prod.mk.injEq] at hx
    obtain ⟨rfl, rfl⟩ := hx
    have hw : DataW.weights Try.prog 49 (.slice ((List.range len).map D) ((List.range (cap - len)).map fun j => D (len + j))) =
        (((List.range len).map D).length + ((List.range (cap - len)).map fun j => D (len + j)).length) * Try.prog.bytesOf 62 ::
        (DataW.weightsAll Try.prog 62 ((List.range len).map D) ++ DataW.weightsAll Try.prog 62 ((List.range (cap - len)).map fun j => D (len + j))) := by
      conv => lhs; unfold DataW.weights
      rw [Try.underlying49]
    have hlen : len ≤ 140737488351232 := by
      have := hz _ (by rw [hw]; exact List.mem_cons_self)
      rw [bytesRow21] at this
      simp only [List.length_map, List.length_range, reachBytes] at this
      omega
    have hmem : ∀ i, i < len → ∀ x ∈ DataW.weights Try.prog 62 (D i), x ≤ reachBytes := by
      intro i hi' x hx
      refine hz x ?_
      rw [hw]
      refine List.mem_cons_of_mem _ (List.mem_append_left _ ?_)
      have key : ∀ (l : List (DataW H)) (y : DataW H), y ∈ l → x ∈ DataW.weights Try.prog 62 y → x ∈ DataW.weightsAll Try.prog 62 l := by
        intro l
        induction l with
        | nil => intro y hy; cases hy
        | cons z r ih =>
          intro y hy hxy
          unfold DataW.weightsAll
          rcases List.mem_cons.1 hy with rfl | hy
          · exact List.mem_append_left _ hxy
          · exact List.mem_append_right _ (ih y hy hxy)
      exact key _ (D i) (List.mem_map.2 ⟨i, List.mem_range.2 hi', rfl⟩) hx
    have hall : ∀ i, i < len → ∃ r : RowI, Nums W r.a r.l ∧ r.l.length ≤ 140737488351232 ∧ W.cell? (a.add i) = some (.slice r.a r.l.length r.cap) := by
      intro i hi'
      obtain ⟨cs', hc, ht⟩ := hi i (by omega)
      rw [cellsRow21] at hc
      obtain ⟨A, cap1, L, e1, hP, hl1⟩ := open_nrow19 ht (hmem i hi')
      obtain ⟨_, _, hat⟩ := World.cells?_some hc
      subst e1
      have := hat 0 (by omega)
      rw [deep18, Nat.mul_one, Nat.add_zero] at this
      exact ⟨⟨A, L, cap1⟩, hP, hl1, this⟩
    haveI : Inhabited RowI := ⟨⟨none, [], 0⟩⟩
    obtain ⟨f, hf'⟩ := Go.Deep.choose_lt hall
    refine ⟨some a, cap, (List.range len).map f, by simp, ⟨?_, ?_⟩, by simpa using hlen, ?_⟩
    · intro i r hr
      have hil : i < len := by
        rcases Nat.lt_or_ge i len with h | h
        · exact h
        · rw [List.getElem?_eq_none (by simpa using h)] at hr; cases hr
      simp only [List.getElem?_map, List.getElem?_range hil, Option.map_some, Option.some.injEq] at hr
      subst hr
      obtain ⟨_, _, c0⟩ := hf' i hil
      obtain ⟨b, off, spot⟩ := a
      have hspot : spot = none := by
        have z0 := (hf' 0 (by omega)).2.2
        simpa [Addr.add] using World.cell?_spot z0
      subst hspot
      have hb : b < W.heap.size := by
        have := World.block_lt_of_cell? W _ c0
        revert this; unfold Addr.add; split <;> simp
      exact ⟨b, off, rfl, hb, by rw [← flat3]; exact c0⟩
    · intro r hr
      obtain ⟨i, hi1, rfl⟩ := List.mem_map.1 hr
      exact (hf' i (List.mem_range.1 hi1)).1
    · intro r hr
      obtain ⟨i, hi1, rfl⟩ := List.mem_map.1 hr
      exact (hf' i (List.mem_range.1 hi1)).2.1

theorem cellsCfgQ : Try.prog.cellsOf 24 = 2 := by kernel_rfl
theorem cfgq_reads {H : Type} {enc : TypeId × Value → H} {a b : Int} (wa : (Lit.int .i64 a).wf = true) (wb : (Lit.int .u64 b).wf = true) (W' : World) (sp : Nat → Bool) :
    DataW.Trod enc Try.prog W' 0 sp true 24 (.agg #[.int .i64 a, .int .u64 b]) (.agg [.lit (.int .i64 a), .lit (.int .u64 b)]) [] :=
  shut_agg2 (y0 := (.lit (.int .i64 a), [])) (y1 := (.lit (.int .u64 b), [])) Try.underlying24 (by kernel_rfl) cellsCfgQ ⟨1, by simp [DataW.trod, Try.underlying3, wa]⟩ ⟨1, by simp [DataW.trod, Try.underlying22, wb]⟩
theorem cfgq_opens {H : Type} {enc : TypeId × Value → H} {W : World} {r : Reach} {b0 : Nat} {sp : Nat → Bool} {v : Value} {d : DataW H} {p : List MemPlace} (hv : Value.okWide Try.prog W r b0 24 v) (h : DataW.Trod enc Try.prog W 0 sp true 24 v d p) :
    ∃ a b : Int, v = .agg #[.int .i64 a, .int .u64 b] ∧ d = .agg [.lit (.int .i64 a), .lit (.int .u64 b)] ∧ p = [] ∧ (Lit.int .i64 a).wf = true ∧ (Lit.int .u64 b).wf = true := by
  obtain ⟨c0, c1, y0, y1, m, rfl, rfl, rfl, hy0, hy1⟩ := open_agg2 Try.underlying24 (by kernel_rfl) cellsCfgQ hv h
  obtain ⟨a, e0, rfl, wa⟩ := DataW.trod_int Try.underlying3 hy0
  obtain ⟨b, e1, rfl, wb⟩ := DataW.trod_int Try.underlying22 hy1
  simp at e0 e1
  subst e0 e1
  exact ⟨a, b, rfl, rfl, rfl, wa, wb⟩
end Go.Proofs.Ytbdfmnlfdhhnjaa

/-
  The laws of layer 21: alive, good.
-/
namespace Go.Proofs.Ytbdfmnlfdhhnjaa
set_option linter.unusedVariables false
set_option linter.unusedSimpArgs false
open Go.RowKit

theorem al21_len : lenR (playT 4 (coinB 0) newT [4, 3, 2, 1]).1 = [2, 1] := by decide +kernel
theorem al21_use : (playT 4 (coinB 0) newT [4, 3, 2, 1]).2 = 1 := by decide +kernel
theorem al21_wt : wtR (playT 4 (coinB 0) newT [4, 3, 2, 1]).1 = 4 := by decide +kernel
theorem al21_less : ∀ j, j ≤ 4 → (playT 4 (coinB 0) newT ([4, 3, 2, 1].take j)).2 ≤ 1000000000 ∧ wtR (playT 4 (coinB 0) newT ([4, 3, 2, 1].take j)).1 = j := by decide +kernel
theorem al21_next : ∀ j, j < 4 → [4, 3, 2, 1].take (j + 1) = [4, 3, 2, 1].take j ++ [(4 : Int) - j] := by decide +kernel
theorem play_app {B : Int} {c : Nat → Bool} {t : Tow} {V W : List Int} : playT B c t (V ++ W) = playT B c (playT B c t V) W := by unfold playT; rw [List.foldl_append]
theorem len_two {R : List RowI} {a b : Nat} (h : lenR (lsI R) = [a, b]) : ∃ r0 r1, R = [r0, r1] ∧ r0.l.length = a ∧ r1.l.length = b := by
  unfold lenR lsI at h
  rw [List.map_map] at h
  match R, h with
  | [], h => cases h
  | [r], h => cases h
  | [r0, r1], h =>
    injection h with h1 h2
    injection h2 with h2 _
    exact ⟨r0, r1, rfl, h1, h2⟩
  | _ :: _ :: _ :: _, h => simp at h

set_option maxRecDepth 100000 in
set_option maxHeartbeats 2000000 in
theorem alive21_any {Rq : RqT} (D : RqDoes Rq) (w : World) : Calls Try.prog 11 #[] w fun e w' => e = .returned (.bool true) ∧ Below w.heap.size w w' := by
  have HD := Lib.hid D
  have HN := Lib.hid (D.new w 4 0 (by decide) ⟨by decide, by decide⟩)
  have C1 := Lib.hid al21_len
  have C2 := Lib.hid al21_use
  have C3 := Lib.hid al21_wt
  clear D
  go_enter Try.func11, Try.ntmps11
  go_wp2_with fail
  with_reducible (refine HN.out.mono ?_)
  rintro e w1 ⟨P, S, rfl, h1, hs1, b1⟩
  have H1 := Lib.hid h1
  have HS1 := Lib.hid hs1
  have HB1 := Lib.hid b1
  clear h1 hs1 b1 HN
  go_wp2_with fail
  go_loopw [3] (fun xv wr => ∃ (j : Nat) (S : Nat → Prop) (e : Int × Int × Bool), j ≤ 4 ∧ xv = .int .i64 (4 - (j : Int)) ∧ Rq wr P S 4 0 (playT 4 (coinB 0) newT ([4, 3, 2, 1].take j)) e ∧ (∀ i, S i → w.heap.size ≤ i) ∧ Below w.heap.size w wr) (fun xv _ => (intOf xv).toNat)
  case atStart => exact ⟨0, S, _, Nat.zero_le _, rfl, H1.out, HS1.out, HB1.out⟩
  case round =>
    obtain ⟨j, Sj, ej, hj, rfl, hq, hsj, hb⟩ := hrel
    have HQ := Lib.hid hq
    have HSJ := Lib.hid hsj
    have HB := Lib.hid hb
    clear hq hsj hb
    obtain ⟨x, hx⟩ : ∃ x : Int, 4 - (j : Int) = x := ⟨_, rfl⟩
    rw [hx]
    have HX := Lib.hid hx
    have xb : 0 ≤ x ∧ x ≤ 4 := by omega
    obtain ⟨x0, x1⟩ := xb
    by_cases hlt : j < 4
    · have hx1 : 0 < x := by omega
      obtain ⟨l1, l2⟩ := al21_less j hj
      have HNX : Hid (playT 4 (coinB 0) newT ([4, 3, 2, 1].take (j + 1)) = playT 4 (coinB 0) (playT 4 (coinB 0) newT ([4, 3, 2, 1].take j)) (List.replicate 1 x)) := Lib.hid (by rw [al21_next j hlt, hx, play_app]; rfl)
      have HP := Lib.hid (HD.out.put wr P Sj 4 0 _ _ x 1 HQ.out ⟨by omega, by omega⟩ (by decide) (by decide) (by rw [l2]; show (j : Int) + 1 ≤ 4 * 1024; omega) l1)
      rw [show ((1 : Nat) : Int) = 1 from rfl] at HP
      clear l1 l2 hx
      go_wp2_with fail
      with_reducible (refine HP.out.mono ?_)
      rintro e w2 ⟨S2, rfl, h2, k2, hs2⟩
      have HK : Hid (Rq w2 P S2 4 0 (playT 4 (coinB 0) newT ([4, 3, 2, 1].take (j + 1))) (addW ej x)) := Lib.hid (by rw [HNX.out]; exact h2)
      have HB2 := Lib.hid (k2.below HB.out HB.out.size HSJ.out)
      have HS2 : Hid (∀ i, S2 i → w.heap.size ≤ i) := Lib.hid fun i hi => by
        rcases hs2 i hi with h | h
        · exact HSJ.out i h
        · have := HB.out.size; omega
      clear h2 k2 hs2 HP
      go_wp2_with fail
      go_roundw
      case rel => exact ⟨j + 1, S2, _, by omega, by have := HX.out; go_num, HK.out, HS2.out, HB2.out⟩
      case measure => simp [intOf]; omega
    · obtain rfl : j = 4 := by omega
      have hx0 : x = 0 := by omega
      subst hx0
      have hq := HQ.out
      rw [show [4, 3, 2, 1].take 4 = ([4, 3, 2, 1] : List Int) from rfl] at hq
      have HR := Lib.hid (HD.out.rows wr P Sj 4 0 _ _ hq)
      have HQ2 := Lib.hid hq
      clear hq hx
      go_wp2_with fail
      with_reducible (refine HR.out.mono ?_)
      rintro e w2 ⟨A, c, R, rfl, hr, hls, b2⟩
      have hl2 := C1.out
      rw [← hls] at hl2
      obtain ⟨r0, r1, rfl, e0, e1⟩ := len_two hl2
      obtain ⟨ba, oa, rfl, _, d0⟩ := hr.at_ 0 r0 rfl
      obtain ⟨bb, ob, eb, _, d1⟩ := hr.at_ 1 r1 rfl
      cases eb
      rw [e0, Nat.add_zero] at d0
      rw [e1] at d1
      have HBB := Lib.hid (HB.out.trans (b2.mono HB.out.size))
      have HQ3 := Lib.hid (HD.out.call HQ2.out b2)
      have HU := Lib.hid (HD.out.used w2 P Sj 4 0 _ _ HQ3.out)
      rw [C2.out] at HU
      have z2 := HBB.out.size
      have hlen : ([r0, r1] : List RowI).length = 2 := rfl
      rw [hlen]
      clear hr hls b2 hl2 e0 e1 HR hlen
      go_wp2_with fail
      with_reducible (refine HU.out.mono ?_)
      rintro e w3 ⟨rfl, b3⟩
      have HT := Lib.hid (HD.out.total w3 P Sj 4 0 _ _ (HD.out.call HQ3.out b3))
      rw [C3.out] at HT
      have HB3 := Lib.hid (HBB.out.trans (b3.mono HBB.out.size))
      clear b3
      go_wp2_with fail
      with_reducible (refine HT.out.mono ?_)
      rintro e w4 ⟨rfl, b4⟩
      have HB4 := Lib.hid (HB3.out.trans (b4.mono HB3.out.size))
      clear b4
      go_wp2_with fail
      go_ret
      exact ⟨rfl, HB4.out⟩

set_option maxRecDepth 100000 in
set_option maxHeartbeats 1000000 in
theorem good21_any (w : World) (B : Int) (hB : I64 B) : Calls Try.prog 30 #[.int .i64 B] w fun e w' => e = .returned (.bool (goodQ B)) ∧ w = w' := by
  obtain ⟨b0, b1⟩ := hB
  obtain ⟨g, hg⟩ : ∃ g, goodQ B = g := ⟨_, rfl⟩
  have HG := Lib.hid hg
  clear hg
  by_cases c1 : 4 ≤ B
  · by_cases c2 : B ≤ 64
    · obtain ⟨m, hm⟩ : ∃ m, B % 4 = m := ⟨_, rfl⟩
      have ht : B.tmod 4 = m := by rw [Int.tmod_eq_emod_of_nonneg (by omega)]; exact hm
      have HM : Hid (g = (m == 0)) := Lib.hid (by
        rw [← HG.out]
        unfold goodQ
        rw [decide_eq_true c1, decide_eq_true c2, hm]
        show (true && true && decide (m = 0)) = _
        by_cases z : m = 0
        · subst z; rfl
        · rw [decide_eq_false z, beq_eq_false_iff_ne.2 z]; rfl)
      have hm0 : 0 ≤ m ∧ m < 4 := by omega
      obtain ⟨m0, m1⟩ := hm0
      go_enter Try.func30, Try.ntmps30
      go_wp2_with fail
      go_ret
      exact ⟨by rw [HG.out, HM.out]; rfl, rfl⟩
    · have HM : Hid (g = false) := Lib.hid (by rw [← HG.out]; unfold goodQ; rw [decide_eq_true c1, decide_eq_false c2]; rfl)
      go_enter Try.func30, Try.ntmps30
      go_wp2_with fail
      go_ret
      exact ⟨by rw [HG.out, HM.out]; rfl, rfl⟩
  · have HM : Hid (g = false) := Lib.hid (by rw [← HG.out]; unfold goodQ; rw [decide_eq_false c1]; rfl)
    go_enter Try.func30, Try.ntmps30
    go_wp2_with fail
    go_ret
    exact ⟨by rw [HG.out, HM.out]; rfl, rfl⟩
end Go.Proofs.Ytbdfmnlfdhhnjaa

/-
  The laws of layer 21: build.
-/
namespace Go.Proofs.Ytbdfmnlfdhhnjaa
set_option linter.unusedVariables false
set_option linter.unusedSimpArgs false
open Go.RowKit

theorem keepsT_then {S T : Nat → Prop} {w w1 w2 : World} (h : Keeps S w w1) (h' : Keeps T w1 w2) (hS : ∀ k, k < w.heap.size → T k → S k) : Keeps S w w2 :=
  ⟨h'.os.trans h.os, h'.tape.trans h.tape, h'.output.trans h.output, Nat.le_trans h.size h'.size, fun k hk hn => (h'.block k (Nat.lt_of_lt_of_le hk h.size) (fun x => hn (hS k hk x))).trans (h.block k hk hn)⟩
/-- The blocks of a reference's tower. -/
def rgT (M : Nat) (hv : Value) (R : List RowI) : Nat → Prop := fun k => k = M ∨ hv.ownBlock = some k ∨ ∃ r, r ∈ R ∧ ∃ a, r.a = some a ∧ a.block = k
theorem RefT.blocks {w : World} {M : Nat} {B word : Int} {u : Nat} {hv : Value} {R : List RowI} (h : RefT w M B word u hv R) : ∀ k, rgT M hv R k → k < w.heap.size := by
  rintro k (rfl | e | ⟨r, hr, a, ha, rfl⟩)
  · exact h.lt
  · exact (h.head.lt k e).2
  · exact ((h.row r hr).2 a ha).1
theorem RefT.keep {w w' : World} {M : Nat} {B word : Int} {u : Nat} {hv : Value} {R : List RowI} {S : Nat → Prop} (h : RefT w M B word u hv R) (hk : Keeps S w w') (hS : ∀ k, rgT M hv R k → ¬ S k) : RefT w' M B word u hv R := by
  have hb : ∀ k, rgT M hv R k → w'.heap[k]? = w.heap[k]? := fun k hk2 => hk.block k (h.blocks k hk2) (hS k hk2)
  have hM := hb M (Or.inl rfl)
  have hc : ∀ o x, w.cell? ⟨M, o, none⟩ = some x → w'.cell? ⟨M, o, none⟩ = some x := fun o x hx => (World.cell?_of_block (a := ⟨M, o, none⟩) hM).trans hx
  refine { c0 := hc _ _ h.c0, c1 := hc _ _ h.c1, c2 := hc _ _ h.c2, c3 := hc _ _ h.c3, f0 := fun o => (World.frozen?_of_block (a := ⟨M, o, none⟩) hM).trans (h.f0 o), head := ⟨h.head.1, ?_⟩, nM := h.nM, row := fun r hr => ⟨⟨(h.row r hr).1.ok, fun i p hi => ?_⟩, fun a ha => ⟨Nat.lt_of_lt_of_le ((h.row r hr).2 a ha).1 hk.size, ((h.row r hr).2 a ha).2⟩⟩ }
  · rcases h.head.2 with hn | ⟨g, cap, cur, rfl, hb1, hgg, rest⟩
    · exact .inl hn
    · exact .inr ⟨g, cap, cur, rfl, hb1, (hb g (Or.inr (Or.inl rfl))).trans hgg, rest⟩
  · obtain ⟨b, off, e, hlt, c0⟩ := (h.row r hr).1.at_ i p hi
    exact ⟨b, off, e, Nat.lt_of_lt_of_le hlt hk.size, (World.cell?_of_block (a := ⟨b, off + i, none⟩) (hb b (Or.inr (Or.inr ⟨r, hr, _, e, rfl⟩)))).trans c0⟩
theorem Along.rg {w w' : World} {M : Nat} {hv hv' : Value} {R R' : List RowI} (h : Along w M hv R w' hv' R') : ∀ k, rgT M hv' R' k → rgT M hv R k ∨ w.heap.size ≤ k := by
  rintro k (rfl | e | ⟨r, hr, a, ha, rfl⟩)
  · exact Or.inl (Or.inl rfl)
  · rcases h.heads with h1 | h1
    · exact Or.inl (Or.inr (Or.inl (by rw [← h1]; exact e)))
    · exact Or.inr (h1 k e)
  · rcases h.rows r hr with h1 | h1
    · exact Or.inl (Or.inr (Or.inr ⟨r, h1, a, ha, rfl⟩))
    · exact Or.inr (h1 a ha)
theorem Along.keepR {w w' : World} {M : Nat} {hv hv' : Value} {R R' : List RowI} (h : Along w M hv R w' hv' R') : Keeps (rgT M hv R) w w' :=
  ⟨h.keeps.os, h.keeps.tape, h.keeps.output, h.keeps.size, fun k hk hn => h.keeps.block k hk (fun c => by
    rcases c with c | c
    · exact hn (Or.inl c)
    · exact hn (Or.inr (Or.inl c)))⟩

/-- A tower of values that were put. -/
def towQ (B word : Int) (V : List Int) : Tow := playT B (coinB word) newT V
theorem tow_app (B word : Int) (V W : List Int) : towQ B word (V ++ W) = playT B (coinB word) (towQ B word V) W := by unfold towQ playT; rw [List.foldl_append]
theorem tow_snoc (B word : Int) (V : List Int) (x : Int) : towQ B word (V ++ [x]) = putT B (coinB word) (towQ B word V) x := tow_app B word V [x]
theorem tow_P {B : Int} (word : Int) (h4 : B % 4 = 0) (h0 : 4 ≤ B) (V : List Int) : TowP B V (towQ B word V).1 := by
  have h := TowP.play h4 h0 (coinB word) V (tow_new h0)
  rw [List.nil_append] at h
  exact h
theorem tow_less {B : Int} (word : Int) (h4 : B % 4 = 0) (h0 : 4 ≤ B) (h64 : B ≤ 64) (V : List Int) (hn : (V.length : Int) ≤ B * 1024) : (towQ B word V).2 ≤ 834 * V.length := by
  have := play_less h4 h0 h64 (coinB word) V (tow_new h0) (by simpa using hn)
  simpa [towQ, newT] using this

set_option maxHeartbeats 1000000 in
theorem rput21_gen (w : World) (M : Nat) (B word : Int) (u : Nat) (hv : Value) (R : List RowI) (x : Int) (h : RefT w M B word u hv R) (hne : R ≠ []) (hx : I64 x) (h4 : B % 4 = 0) (h0 : 4 ≤ B) (h64 : B ≤ 64) (hw : Word word) (hu : u ≤ 1000000) (hfu : fuelR (lsI R) ≤ 30000) :
    Calls Try.prog 33 #[.pointer (some ⟨M, 0, none⟩), .int .i64 x] w fun e w' => e = .returned (.tuple #[]) ∧ SettledR w M B word hv R (putT B (coinB word) (lsI R, u) x) w' := by
  cases R with
  | nil => exact absurd rfl hne
  | cons r0 R =>
    obtain ⟨G, hc, rfl, _⟩ := h.head.some_ (by simp)
    exact rput21_any w M B word u G hc r0 R x h hx h4 h0 h64 hw hu hfu

/-- Values that may be played. -/
def OneQ (A : List PairV) : Prop := ∀ p, p ∈ A → 1 ≤ p.2 ∧ p.2 ≤ 200
theorem one_sumQ {A : List PairV} (h : OneQ A) : 0 ≤ sumP A ∧ sumP A ≤ 200 * A.length := by
  induction A with
  | nil => exact ⟨Int.le_refl _, by simp [sumP]⟩
  | cons p r ih =>
    obtain ⟨i1, i2⟩ := ih fun q hq => h q (List.mem_cons_of_mem _ hq)
    have h0 := h p List.mem_cons_self
    rw [sumP_cons, List.length_cons]
    omega
structure FewQ (A : List PairV) : Prop where
  one : OneQ A
  len : A.length ≤ 60
  sum : sumP A ≤ 200
/-- A tower that was built, and what it must be. -/
structure BuiltQ (Rq : RqT) (w : World) (B word : Int) (A : List PairV) (P : Nat) (S : Nat → Prop) (M : Nat) (hv : Value) (R : List RowI) (w' : World) : Prop where
  rq : Rq w' P S B word (towQ B word (allG A)) (endAD A)
  ref : RefT w' M B word (towQ B word (allG A)).2 hv R
  rows : lsI R = (towQ B word (allG A)).1
  sep : ∀ k, rgT M hv R k → ¬ S k
  newS : ∀ k, S k → w.heap.size ≤ k
  newR : ∀ k, rgT M hv R k → w.heap.size ≤ k
  below : Below w.heap.size w w'
def Build21 (Rq : RqT) (w : World) (B word : Int) (A : List PairV) (e : Ending) (w' : World) : Prop :=
  (∃ P S M hv R, e = .returned (.tuple #[.pointer (some ⟨P, 0, none⟩), .pointer (some ⟨M, 0, none⟩), .bool true]) ∧ goodQ B = true ∧ FewQ A ∧ BuiltQ Rq w B word A P S M hv R w') ∨
  (e = .returned (.tuple #[.pointer none, .pointer none, .bool false]) ∧ ¬ (goodQ B = true ∧ FewQ A) ∧ Below w.heap.size w w')
theorem size_boxQ (w : World) (o : Obj) : (w.alloc o).heap.size = w.heap.size + 1 := by unfold World.alloc; exact Array.size_push _
theorem two_boxQ (w : World) (x y : Value) (t : TypeId) : (w.alloc (.cells #[x, y] t)).cell? ⟨w.heap.size, 0, none⟩ = some x ∧ (w.alloc (.cells #[x, y] t)).cell? ⟨w.heap.size, 1, none⟩ = some y := ⟨(Two.new w x y t).c0, (Two.new w x y t).c1⟩
theorem all_lenQ {A : List PairV} (h : OneQ A) : ((allG A).length : Int) = sumP A := ((where_up (fun p hp => by have := (h p hp).1; omega) 0).2.2).symm
theorem rep_succ (c : Nat) (x : Int) : List.replicate (c + 1) x = List.replicate c x ++ [x] := by rw [List.replicate_succ']
/-- The reference on its way through one value's times. -/
structure OnRef (w6 : World) (B word : Int) (V : List Int) (M : Nat) (hv0 : Value) (R0 : List RowI) (hv : Value) (R : List RowI) (wr : World) : Prop where
  ref : RefT wr M B word (towQ B word V).2 hv R
  rows : lsI R = (towQ B word V).1
  rg : ∀ k, rgT M hv R k → rgT M hv0 R0 k ∨ w6.heap.size ≤ k
  keeps : Keeps (rgT M hv0 R0) w6 wr
theorem OnRef.next {w6 wr w' : World} {B word : Int} {V : List Int} {M : Nat} {hv0 hv : Value} {R0 R : List RowI} {x : Int} (h : OnRef w6 B word V M hv0 R0 hv R wr) (hs : SettledR wr M B word hv R (putT B (coinB word) (lsI R, (towQ B word V).2) x) w') : ∃ hv' R', OnRef w6 B word (V ++ [x]) M hv0 R0 hv' R' w' := by
  obtain ⟨hv', R', h1, h2, h3⟩ := hs
  have e : putT B (coinB word) (lsI R, (towQ B word V).2) x = towQ B word (V ++ [x]) := by rw [tow_snoc, h.rows]
  rw [e] at h1 h2
  refine ⟨hv', R', h1, h2, fun k hk => ?_, keepsT_then h.keeps h3.keepR fun k hk hk2 => ?_⟩
  · rcases h3.rg k hk with c | c
    · exact h.rg k c
    · exact Or.inr (Nat.le_trans h.keeps.size c)
  · rcases h.rg k hk2 with c | c
    · exact c
    · omega

set_option maxRecDepth 100000 in
set_option maxHeartbeats 8000000 in
theorem build21_any {Rq : RqT} (D : RqDoes Rq) (w : World) (B word : Int) (A : List PairV) (a : Option Addr) (cap : Nat) (hB : I64 B) (hw : Word word) (hA : Pairs w a A) (hl : A.length ≤ 140737488351232) :
    Calls Try.prog 12 #[.agg #[.int .i64 B, .int .u64 word], .slice a A.length cap] w (Build21 Rq w B word A) := by
  have HD := Lib.hid D
  have HA := Lib.hid hA
  have HBI := Lib.hid hB
  have HWD := Lib.hid hw
  obtain ⟨u0, u1⟩ := hB
  obtain ⟨v0, v1⟩ := hw
  obtain ⟨bx0, bx1⟩ := two_boxQ w (.int .i64 B) (.int .u64 word) 24
  have HX0 := Lib.hid bx0
  have HX1 := Lib.hid bx1
  have HB0 : Hid (Below w.heap.size w (w.alloc (.cells #[.int .i64 B, .int .u64 word] 24))) := Lib.hid ((Below.refl _ _).alloc (Nat.le_refl _) _)
  have HWA : Hid ((w.alloc (.cells #[.int .i64 B, .int .u64 word] 24)).heap.size = w.heap.size + 1) := Lib.hid (size_boxQ _ _)
  clear hA D bx0 bx1
  go_enter Try.func12, Try.ntmps12
  go_wp2_with fail
  go_loopw [7, 18] (fun nv jv wr => ∃ (k : Nat) (n : Int), k ≤ A.length ∧ jv = .int .i64 k ∧ nv = .int .u64 n ∧ n = sumP (A.take k) ∧ OneQ (A.take k) ∧ Below w.heap.size w wr ∧ w.heap.size + 1 ≤ wr.heap.size ∧ wr.cell? ⟨w.heap.size, 0, none⟩ = some (.int .i64 B) ∧ wr.cell? ⟨w.heap.size, 1, none⟩ = some (.int .u64 word)) (fun _ jv _ => A.length - (intOf jv).toNat)
  case atStart => exact ⟨0, 0, Nat.zero_le _, rfl, rfl, rfl, (fun p h => (by cases h)), HB0.out, Nat.le_of_eq HWA.out.symm, HX0.out, HX1.out⟩
  case round =>
    obtain ⟨k, n, hk, rfl, rfl, hn, hone, hb2, hsz, hc0, hc1⟩ := hrel
    have HN := Lib.hid hn
    have HO := Lib.hid hone
    have HB := Lib.hid hb2
    have HC0 := Lib.hid hc0
    have HC1 := Lib.hid hc1
    have HSZ := Lib.hid hsz
    have hbs := hb2.size
    by_cases hlt : k < A.length
    · have kk : (k : Int) < A.length := by omega
      have hxk : A[k]? = some A[k] := List.getElem?_eq_getElem hlt
      generalize hit : A[k] = p at *
      obtain ⟨px, pc⟩ := p
      obtain ⟨b, off, rfl, hbl, c0, c1⟩ := (HA.out.call hb2).at_ k _ hxk
      have HS := Lib.hid (take_snocP hxk)
      have HMEM := Lib.hid (List.mem_of_getElem? hxk)
      have hok := HA.out.ok _ (List.mem_of_getElem? hxk)
      obtain ⟨⟨o1, o2⟩, o3, o4⟩ := hok
      have hsum := one_sumQ hone
      rw [← hn, List.length_take] at hsum
      obtain ⟨s1, s2⟩ : 0 ≤ n ∧ n ≤ 200 * 140737488351232 := by omega
      have HAL : Hid (Below wr.heap.size wr (wr.alloc (.cells #[.int .i64 px, .int .u64 pc] 70))) := Lib.hid ((Below.refl _ _).alloc (Nat.le_refl _) _)
      have HB4 := Lib.hid (hb2.trans (HAL.out.mono hbs))
      simp only at c0 c1 o1 o2 o3 o4
      clear hxk hit hn hone hsum hb2 hc0 hc1
      by_cases z1 : pc = 0
      · have HNO : Hid (¬ OneQ A) := Lib.hid fun h => by have := (h _ HMEM.out).1; simp only at this; omega
        have g1 : (pc == 0) = true := by rw [z1]; rfl
        clear z1
        go_wp2_with fail
        go_ret3
        exact Or.inr ⟨rfl, fun h => HNO.out h.2.one, HB4.out⟩
      have g1 : (pc == 0) = false := by simpa using z1
      by_cases z2 : 200 < pc
      · have HNO : Hid (¬ OneQ A) := Lib.hid fun h => by have := (h _ HMEM.out).2; simp only at this; omega
        have g2 : decide (200 < pc) = true := decide_eq_true z2
        clear z1
        go_wp2_with fail
        go_ret3
        exact Or.inr ⟨rfl, fun h => HNO.out h.2.one, HB4.out⟩
      have g2 : decide (200 < pc) = false := decide_eq_false z2
      have HP1 : Hid (1 ≤ pc ∧ pc ≤ 200) := Lib.hid (by omega)
      obtain ⟨s3, s4⟩ : 0 ≤ n + pc ∧ n + pc < 18446744073709551616 := by omega
      go_wp2_with fail
      go_roundw
      case rel =>
        refine ⟨k + 1, n + pc, by omega, by go_num, rfl, by rw [HS.out, sumP_app, sumP_one, HN.out], ?_, HB4.out, Nat.le_trans HSZ.out HAL.out.size, cell_later HAL.out HC0.out, cell_later HAL.out HC1.out⟩
        rw [HS.out]
        intro p hp
        rcases List.mem_append.1 hp with h | h
        · exact HO.out p h
        · rw [List.mem_singleton.1 h]; exact HP1.out
      case measure => simp [intOf]; omega
    · obtain rfl : k = A.length := by omega
      rw [List.take_length] at HN HO
      have kk : ¬ (A.length : Int) < A.length := by omega
      have hsum := one_sumQ HO.out
      rw [← HN.out] at hsum
      obtain ⟨s1, s2⟩ : 0 ≤ n ∧ n ≤ 200 * 140737488351232 := by omega
      clear hn hone hsum
      by_cases q1 : 60 < A.length
      · have q1' : (60 : Int) < A.length := by omega
        clear hb2
        go_wp2_with fail
        go_ret3
        exact Or.inr ⟨rfl, fun h => by have := h.2.len; omega, HB.out⟩
      have q1' : ¬ (60 : Int) < A.length := by omega
      by_cases q2 : 200 < n
      · clear hb2
        go_wp2_with fail
        go_ret3
        exact Or.inr ⟨rfl, fun h => by have := h.2.sum; rw [← HN.out] at this; omega, HB.out⟩
      have HF : Hid (FewQ A) := Lib.hid ⟨HO.out, by omega, by rw [← HN.out]; omega⟩
      have HGD := Lib.hid (good21_any wr B HBI.out)
      clear hb2
      go_wp2_with fail
      with_reducible (refine HGD.out.mono ?_)
      rintro e w1 ⟨rfl, rfl⟩
      clear HGD
      cases hg : goodQ B with
      | false =>
        have HNO : Hid (¬ goodQ B = true) := Lib.hid fun h => by rw [hg] at h; cases h
        go_wp2_with fail
        go_ret3
        exact Or.inr ⟨rfl, fun h => HNO.out h.1, HB.out⟩
      | true =>
      have HGA := Lib.hid hg
      have HGB := Lib.hid (goodQ_iff.1 hg)
      have HNW := Lib.hid (HD.out.new wr B word HGA.out HWD.out)
      clear hg
      go_wp2_with fail
      with_reducible (refine HNW.out.mono ?_)
      rintro e w2 ⟨P, S, rfl, hx, hS, b2⟩
      have HB2 := Lib.hid (HB.out.trans (b2.mono HB.out.size))
      have e0 := cell_later b2 hc0
      have e1 := cell_later b2 hc1
      have HX := Lib.hid hx
      have HLS := Lib.hid (HD.out.lt _ _ _ _ _ _ _ hx)
      have HS : Hid (∀ i, S i → w.heap.size ≤ i) := Lib.hid fun i hi => by have := hS i hi; have := HSZ.out; omega
      have HZ2 := Lib.hid HB2.out.size
      have HRN := Lib.hid (rnew21_any w2 B word HBI.out HWD.out)
      clear hx hS b2 HNW hc0 hc1
      go_wp2_with fail
      with_reducible (refine HRN.out.mono ?_)
      rintro e w3 ⟨M, hv, rfl, hr3, hM, hH, b3⟩
      have HX3 := Lib.hid (HD.out.call HX.out b3)
      have HR3 := Lib.hid hr3
      have HB3 := Lib.hid (HB2.out.trans (b3.mono HB2.out.size))
      have HMN := Lib.hid hM
      have HHN := Lib.hid hH
      clear hr3 hM hH b3 HRN e0 e1
      go_wp2_with fail
      go_loopw [60] (fun jv wr => ∃ (i : Nat) (Sk : Nat → Prop) (hv : Value) (R : List RowI), i ≤ A.length ∧ jv = .int .i64 i ∧ BuiltQ Rq w B word (A.take i) P Sk M hv R wr) (fun jv _ => A.length - (intOf jv).toNat)
      case atStart =>
        refine ⟨0, S, hv, _, Nat.zero_le _, rfl, ⟨HX3.out, HR3.out, rfl, ?_, HS.out, ?_, HB3.out⟩⟩
        · rintro k (rfl | h | ⟨r, hr, a, ha, _⟩)
          · exact fun h => by have := HLS.out _ h; have := HMN.out; omega
          · exact fun h2 => by have := HLS.out _ h2; have := HHN.out _ h; omega
          · rw [List.mem_singleton.1 hr] at ha; cases ha
        · rintro k (rfl | h | ⟨r, hr, a, ha, _⟩)
          · have := HMN.out; have := HZ2.out; omega
          · have := HHN.out _ h; have := HZ2.out; omega
          · rw [List.mem_singleton.1 hr] at ha; cases ha
      case round =>
        obtain ⟨i, Sk, hv, R, hi, rfl, hbt⟩ := hrel
        obtain ⟨wi, hwi⟩ : ∃ wi, wi = wr := ⟨_, rfl⟩
        subst hwi
        have HBT := Lib.hid hbt
        have hz3 := hbt.below.size
        by_cases hlt : i < A.length
        · have kl : (i : Int) < A.length := by omega
          have hxk : A[i]? = some A[i] := List.getElem?_eq_getElem hlt
          generalize hit : A[i] = p at *
          obtain ⟨px, pc⟩ := p
          obtain ⟨bb, off, rfl, hbl, c0, c1⟩ := (HA.out.call hbt.below).at_ i _ hxk
          have hok := HA.out.ok _ (List.mem_of_getElem? hxk)
          have hpc := HF.out.one _ (List.mem_of_getElem? hxk)
          have HKT := Lib.hid (take_snocP hxk)
          have HSUM : Hid (sumP (A.take i) + pc ≤ 200) := Lib.hid (by
            have h1 := (sumP_take (i + 1) (ok_pos HA.out.ok)).2
            rw [HKT.out, sumP_app, sumP_one] at h1
            have := HF.out.sum
            simp only at h1
            omega)
          have HOT : Hid (OneQ (A.take i)) := Lib.hid fun p hp => HF.out.one p (List.mem_of_mem_take hp)
          obtain ⟨⟨o1, o2⟩, o3, o4⟩ := hok
          simp only at c0 c1 o1 o2 o3 o4 hpc
          obtain ⟨p1, p2⟩ := hpc
          obtain ⟨c, rfl⟩ : ∃ c : Nat, pc = c := ⟨pc.toNat, by omega⟩
          obtain ⟨V, hV⟩ : ∃ V, allG (A.take i) = V := ⟨_, rfl⟩
          have HVL : Hid (V.length + c ≤ 200) := Lib.hid (by
            have h1 := all_lenQ HOT.out
            rw [hV] at h1
            have := HSUM.out
            omega)
          obtain ⟨gb1, gb2, gb3⟩ := HGB.out
          have HE1 : Hid (allG (A.take (i + 1)) = V ++ List.replicate c px) := Lib.hid (by rw [HKT.out, all_snoc, hV, Int.toNat_natCast])
          have HE2 : Hid (endAD (A.take (i + 1)) = addW (endAD (A.take i)) px) := Lib.hid (by rw [HKT.out, endA_snoc])
          have HAL : Hid (Below wi.heap.size wi (wi.alloc (.cells #[.int .i64 px, .int .u64 c] 70))) := Lib.hid ((Below.refl _ _).alloc (Nat.le_refl _) _)
          have HB4 := Lib.hid (hbt.below.trans (HAL.out.mono hz3))
          have hrq := hbt.rq
          rw [hV] at hrq
          have href := hbt.ref
          rw [hV] at href
          have hrows := hbt.rows
          rw [hV] at hrows
          have HX4 := Lib.hid (HD.out.call hrq HAL.out)
          have HR4 := Lib.hid (href.call HAL.out)
          have HROW := Lib.hid hrows
          obtain ⟨y0, y1⟩ := two_boxQ wi (.int .i64 px) (.int .u64 c) 70
          have HW4 := Lib.hid (size_boxQ wi (.cells #[.int .i64 px, .int .u64 c] 70))
          have HTP := Lib.hid (fun W => tow_P (B := B) word gb3 gb1 W)
          have HTL := Lib.hid (fun W (hW : W.length ≤ 200) => tow_less (B := B) word gb3 gb1 gb2 W (by omega))
          have HPU := Lib.hid (HD.out.put _ P Sk B word _ _ px c HX4.out ⟨o1, o2⟩ (by omega) (by omega) (by rw [(HTP.out V).wt]; have := HVL.out; omega) (by have := HTL.out V (by have := HVL.out; omega); have := HVL.out; omega))
          have HLR := Lib.hid href.blocks
          have HLK := Lib.hid (HD.out.lt _ _ _ _ _ _ _ hbt.rq)
          have HI64 : Hid (I64 px) := Lib.hid ⟨o1, o2⟩
          have HVE := Lib.hid hV
          clear hxk hit hbt hrq href hrows hV
          have HY0 := Lib.hid y0
          have HY1 := Lib.hid y1
          clear y0 y1
          go_wp2_with fail
          with_reducible (refine HPU.out.mono ?_)
          rintro e w5 ⟨S5, rfl, hx5, hk5, hs5⟩
          have HX5 := Lib.hid hx5
          have HK5 := Lib.hid hk5
          have HS5 := Lib.hid hs5
          have HB5 : Hid (Below w.heap.size w w5) := Lib.hid (Keeps.below HB4.out hk5 HB4.out.size HBT.out.newS)
          have hb0 : ¬ Sk wi.heap.size := fun h => by have := HLK.out _ h; omega
          have q0 := hk5.cell hb0 HY0.out
          have q1 := hk5.cell hb0 HY1.out
          have HR5 := Lib.hid (HR4.out.keep hk5 HBT.out.sep)
          have HL5 := Lib.hid (HD.out.lt _ _ _ _ _ _ _ hx5)
          have HOS : Hid (OnRef w5 B word (V ++ List.replicate 0 px) M hv R hv R w5) := Lib.hid ⟨by rw [List.replicate_zero, List.append_nil]; exact HR5.out, by rw [List.replicate_zero, List.append_nil]; exact HROW.out, fun k hk => Or.inl hk, Keeps.refl _ _⟩
          have HQ0 := Lib.hid q0
          have HQ1 := Lib.hid q1
          have HNR : Hid (¬ rgT M hv R wi.heap.size) := Lib.hid fun h => by have := HLR.out _ h; omega
          clear hx5 hk5 hs5 HPU hb0 q0 q1
          go_wp2_with fail
          go_loopw [15] (fun nv wr => ∃ (j : Nat) (hv' : Value) (R' : List RowI), j ≤ c ∧ nv = .int .u64 j ∧ OnRef w5 B word (V ++ List.replicate j px) M hv R hv' R' wr) (fun nv _ => c - (intOf nv).toNat)
          case atStart => exact ⟨0, hv, R, Nat.zero_le _, rfl, HOS.out⟩
          case round =>
            obtain ⟨j, hv', R', hj, rfl, hon⟩ := hrel
            have HON := Lib.hid hon
            have q0 := hon.keeps.cell HNR.out HQ0.out
            have q1 := hon.keeps.cell HNR.out HQ1.out
            by_cases hjc : j < c
            · have kj : (j : Int) < (c : Int) := by omega
              obtain ⟨VJ, hVJ⟩ : ∃ VJ, V ++ List.replicate j px = VJ := ⟨_, rfl⟩
              have hvl : VJ.length ≤ 200 := by rw [← hVJ, List.length_append, List.length_replicate]; have := HVL.out; omega
              rw [hVJ] at hon HON
              have HNE : Hid (V ++ List.replicate (j + 1) px = VJ ++ [px]) := Lib.hid (by rw [rep_succ, ← List.append_assoc, hVJ])
              have hfu := ((HTP.out VJ).fuel gb1 gb2 (by omega)).2.1
              rw [← hon.rows] at hfu
              have htl := HTL.out VJ hvl
              have HRP := Lib.hid (rput21_gen wr M B word _ hv' R' px hon.ref (fun e => by
                have h := hon.rows
                rw [e] at h
                exact (HTP.out VJ).ne h.symm) HI64.out gb3 gb1 gb2 HWD.out (by omega) (by omega))
              clear hon hVJ hfu htl
              go_wp2_with fail
              with_reducible (refine HRP.out.mono ?_)
              rintro e w7 ⟨rfl, hs7⟩
              obtain ⟨hv8, R8, hon8⟩ := HON.out.next hs7
              rw [← HNE.out] at hon8
              have HO8 := Lib.hid hon8
              clear hs7 hon8 HRP
              go_wp2_with fail
              go_roundw
              case rel => exact ⟨j + 1, hv8, R8, by omega, by go_num, HO8.out⟩
              case measure => simp [intOf]; omega
            · have kj : ¬ (j : Int) < (c : Int) := by omega
              obtain rfl : j = c := by omega
              clear hon
              go_wp2_with fail
              go_roundw
              case rel =>
                have hz4 := HW4.out
                have hz5 := HK5.out.size
                rw [hz4] at hz5
                have hsep : ∀ k, rgT M hv R k → ¬ S5 k := fun k hk h => by
                  rcases HS5.out k h with h | h
                  · exact HBT.out.sep k hk h
                  · have := HLR.out k hk; omega
                have hkr := HON.out.keeps
                have hrg := HON.out.rg
                refine ⟨i + 1, S5, hv', R', by omega, by go_num, ⟨?_, ?_, ?_, ?_, ?_, ?_, ?_⟩⟩
                · rw [HE1.out, HE2.out, tow_app]; exact HD.out.past HX5.out hkr fun k hk h => hsep k h hk
                · rw [HE1.out]; exact HON.out.ref
                · rw [HE1.out]; exact HON.out.rows
                · intro k hk h
                  rcases hrg k hk with h1 | h1
                  · exact hsep k h1 h
                  · have := HL5.out k h; omega
                · intro k h
                  rcases HS5.out k h with h | h
                  · exact HBT.out.newS k h
                  · omega
                · intro k h
                  rcases hrg k h with h | h
                  · exact HBT.out.newR k h
                  · have := HB5.out.size; omega
                · exact Keeps.below HB5.out hkr HB5.out.size HBT.out.newR
              case measure => simp [intOf]; omega
        · obtain rfl : i = A.length := by omega
          rw [List.take_length] at HBT
          have kl : ¬ (A.length : Int) < A.length := by omega
          clear hbt
          go_wp2_with fail
          go_ret3
          exact Or.inl ⟨P, Sk, M, hv, R, rfl, HGA.out, HF.out, HBT.out⟩
end Go.Proofs.Ytbdfmnlfdhhnjaa

/-
  The laws of layer 21: same.
-/
namespace Go.Proofs.Ytbdfmnlfdhhnjaa
set_option linter.unusedVariables false
set_option linter.unusedSimpArgs false
open Go.RowKit

set_option maxRecDepth 100000 in
set_option maxHeartbeats 8000000 in
theorem same21_any {Rq : RqT} (D : RqDoes Rq) (w : World) (P : Nat) (S : Nat → Prop) (B word word' : Int) (t : Tow) (ee : Int × Int × Bool) (M : Nat) (hv : Value) (R : List RowI) (h : Rq w P S B word t ee) (hr : RefT w M B word' t.2 hv R) (hl : lsI R = t.1) (hne : R ≠ []) (h20 : R.length ≤ 20) (hs : ∀ r, r ∈ R → r.l.length ≤ 20000) :
    Calls Try.prog 18 #[.pointer (some ⟨P, 0, none⟩), .pointer (some ⟨M, 0, none⟩)] w fun e w' => e = .returned (.bool true) ∧ Below w.heap.size w w' := by
  obtain ⟨n, hn⟩ : ∃ n, R.length = n := ⟨_, rfl⟩
  have hn1 : 1 ≤ n := by
    cases R with
    | nil => exact absurd rfl hne
    | cons a b => rw [← hn]; simp
  obtain ⟨G, cap, rfl, _, _, hcap⟩ := hr.head.some_ (by rw [hn]; exact hn1)
  rw [hn] at hr
  obtain ⟨T, hT⟩ : ∃ T, wtR t.1 = T := ⟨_, rfl⟩
  obtain ⟨u, hu⟩ : ∃ u, t.2 = u := ⟨_, rfl⟩
  have hlen : t.1.length = n := by rw [← hl, ls_len, hn]
  have CR := Lib.hid (fun W (hb : Below w.heap.size w W) => (D.rows W P S B word t ee (D.call h hb)).mono fun e w' hx => (by
    obtain ⟨A, c, R2, he, h1, h2, h3⟩ := hx
    have h4 : R2.length = n := by rw [← ls_len, h2, hlen]
    rw [h4] at he
    exact ⟨A, c, R2, he, h1, h2, h4, h3⟩ : ∃ A c R2, e = Ending.returned (.slice A n c) ∧ RowsN w' A R2 ∧ lsI R2 = t.1 ∧ R2.length = n ∧ Below W.heap.size W w'))
  have CS := Lib.hid (fun W A c (R2 : List RowI) (hb : Below w.heap.size w W) (hR : RowsN W A R2) (h2 : lsI R2 = t.1) (h4 : R2.length = n) => rsame21_any W A (some ⟨G, 0, none⟩) n c cap R2 R hR ((hr.call hb).rowsN hn) h4 (by rw [h2, hl]) (by omega) (fun r hr2 => by
    have hm : r.l ∈ lsI R := by rw [hl, ← h2]; exact List.mem_map.2 ⟨r, hr2, rfl⟩
    obtain ⟨q, hq, e⟩ := List.mem_map.1 hm
    have := hs q hq
    rw [e] at this
    omega))
  have CU := Lib.hid (fun W (hb : Below w.heap.size w W) => D.used W P S B word t ee (D.call h hb))
  have CT := Lib.hid (fun W (hb : Below w.heap.size w W) => D.total W P S B word t ee (D.call h hb))
  have CM := Lib.hid (fun W (hb : Below w.heap.size w W) => rtotal21_any W M B word' t.2 _ R (hr.call hb) (by omega) hne hs)
  rw [hl] at CM
  rw [hT] at CT CM
  rw [hu] at CU
  have c2 := hr.c2
  rw [hu] at c2
  have c3 := hr.c3
  have HS0 : Hid (w.drew.cell? ⟨M, 2, none⟩ = some (.int .i64 u) ∧ w.drew.cell? ⟨M, 3, none⟩ = some (.slice (some ⟨G, 0, none⟩) n cap) ∧ Below w.heap.size w w.drew) := Lib.hid ⟨c2, c3, (Below.refl _ _).drew⟩
  have HST := Lib.hid (fun (W W' : World) (h : W.cell? ⟨M, 2, none⟩ = some (.int .i64 u) ∧ W.cell? ⟨M, 3, none⟩ = some (.slice (some ⟨G, 0, none⟩) n cap) ∧ Below w.heap.size w W) (hb : Below W.heap.size W W') => (⟨cell_later hb h.1, cell_later hb h.2.1, h.2.2.trans (hb.mono h.2.2.size)⟩ : W'.cell? ⟨M, 2, none⟩ = some (.int .i64 u) ∧ W'.cell? ⟨M, 3, none⟩ = some (.slice (some ⟨G, 0, none⟩) n cap) ∧ Below w.heap.size w W'))
  have HTW := Lib.hid (fun (W : World) (h : W.cell? ⟨M, 2, none⟩ = some (.int .i64 u) ∧ W.cell? ⟨M, 3, none⟩ = some (.slice (some ⟨G, 0, none⟩) n cap) ∧ Below w.heap.size w W) => h.2.2)
  have f5 : ((u : Int) == (u : Int)) = true := by simp
  have f6 : (T == T) = true := by simp
  clear h hr hl hs hT hu hlen hn D hcap c2 c3 hne
  go_enter Try.func18, Try.ntmps18
  go_wp2_with fail
  go_region_held3 (fun w' => w'.cell? ⟨M, 2, none⟩ = some (.int .i64 u) ∧ w'.cell? ⟨M, 3, none⟩ = some (.slice (some ⟨G, 0, none⟩) n cap) ∧ Below w.heap.size w w')
    (first | exact HS0.out | exact HST.out _ _ (by assumption) hbA | exact HST.out _ _ (by assumption) hbB | exact HST.out _ _ (by assumption) hbC | exact HST.out _ _ (by assumption) hbD | assumption)
    ((first
      | (go_at_call 25; (with_reducible (refine (CR.out _ (HTW.out _ (by assumption))).mono ?_)); rintro e wA ⟨A4, k4, R4, rfl, hP4, hL4, hN4, hbA⟩)
      | (go_at_call 34; (with_reducible (refine (CS.out _ A4 k4 R4 (HTW.out _ (by assumption)) ?_ hL4 hN4).mono ?_)); (first | exact hP4 | exact hP4.call (Below.refl _ _)); rintro e wB ⟨rfl, hbB⟩)
      | (go_at_call 26; (with_reducible (refine (CU.out _ (HTW.out _ (by assumption))).mono ?_)); rintro e wC ⟨rfl, hbC⟩)
      | (go_at_call 21; (with_reducible (refine (CT.out _ (HTW.out _ (by assumption))).mono ?_)); rintro e wD ⟨rfl, hbD⟩)
      | (go_at_call 38; (with_reducible (refine (CM.out _ (HTW.out _ (by assumption))).mono ?_)); rintro e wE ⟨rfl, rfl⟩)))
  rename_i hHeld
  have HBH := Lib.hid (HTW.out _ hHeld)
  clear hHeld HS0 HST HTW
  go_wp2_with fail
  go_ret
  exact ⟨rfl, HBH.out⟩
end Go.Proofs.Ytbdfmnlfdhhnjaa

/-
  The laws of layer 21: what two towers joined are.
-/
namespace Go.Proofs.Ytbdfmnlfdhhnjaa
set_option linter.unusedVariables false
set_option linter.unusedSimpArgs false
open Go.RowKit

theorem joint_P {B : Int} (word : Int) (h4 : B % 4 = 0) (h0 : 4 ≤ B) {V V' : List Int} {t o : Tow} (h : TowP B V t.1) (k : TowP B V' o.1) : TowP B (V ++ V') (jointT B (coinB word) t o).1 := by
  unfold jointT
  by_cases z : wtR o.1 = 0
  · rw [if_pos z]
    have hz := k.wt
    rw [z] at hz
    have e : V' = [] := List.eq_nil_of_length_eq_zero (by omega)
    rw [e, List.append_nil]
    exact h
  · rw [if_neg z]
    exact h.join k h4 h0 (coinB word)
theorem rank_wt (x : Int) : ∀ (R : List (List Int)), 0 ≤ rankR x R ∧ rankR x R ≤ wtR R
  | [] => ⟨Int.le_refl _, Int.le_refl _⟩
  | r :: R => by
    obtain ⟨i1, i2⟩ := rank_wt x R
    obtain ⟨u1, u2⟩ := upV_bd r x
    exact ⟨by show 0 ≤ upV r x + 2 * rankR x R; omega, by show upV r x + 2 * rankR x R ≤ r.length + 2 * wtR R; omega⟩
theorem all_ok {A : List PairV} (h : ∀ p, p ∈ A → okP p) : ∀ y, y ∈ allG A → I64 y := by
  intro y hy
  unfold allG at hy
  obtain ⟨p, hp, hm⟩ := List.mem_flatMap.1 hy
  rw [(List.mem_replicate.1 hm).2]
  exact (h p hp).1
end Go.Proofs.Ytbdfmnlfdhhnjaa

/-
  The law ReqDoes, from the contracts.
-/
namespace Go.Proofs.Ytbdfmnlfdhhnjaa
set_option linter.unusedVariables false
set_option linter.unusedSimpArgs false
open Go.RowKit

/-- What two boxes hold, in a world that has grown from one. -/
abbrev BoxQ (s : Nat) (x y u v : Value) (w2 W : World) : Prop := W.cell? ⟨s, 0, none⟩ = some x ∧ W.cell? ⟨s, 1, none⟩ = some y ∧ W.cell? ⟨s + 1, 0, none⟩ = some u ∧ W.cell? ⟨s + 1, 1, none⟩ = some v ∧ Below w2.heap.size w2 W
theorem boxq_later {s : Nat} {x y u v : Value} {w2 W W' : World} (h : BoxQ s x y u v w2 W) (hb : Below W.heap.size W W') : BoxQ s x y u v w2 W' :=
  ⟨cell_later hb h.1, cell_later hb h.2.1, cell_later hb h.2.2.1, cell_later hb h.2.2.2.1, h.2.2.2.2.trans (hb.mono h.2.2.2.2.size)⟩
theorem boxes_newQ (w : World) (x y u v : Value) (t t' : TypeId) : BoxQ w.heap.size x y u v w ((w.alloc (.cells #[x, y] t)).alloc (.cells #[u, v] t')) := by
  obtain ⟨a0, a1⟩ := two_boxQ w x y t
  obtain ⟨b0, b1⟩ := two_boxQ (w.alloc (.cells #[x, y] t)) u v t'
  rw [size_boxQ] at b0 b1
  have hn : Below (w.alloc (.cells #[x, y] t)).heap.size (w.alloc (.cells #[x, y] t)) ((w.alloc (.cells #[x, y] t)).alloc (.cells #[u, v] t')) := (Below.refl _ _).alloc (Nat.le_refl _) _
  have h0 : Below w.heap.size w (w.alloc (.cells #[x, y] t)) := (Below.refl _ _).alloc (Nat.le_refl _) _
  exact ⟨cell_later hn a0, cell_later hn a1, b0, b1, h0.trans (hn.mono h0.size)⟩
theorem up_allQ {x : Int} : ∀ {V : List Int}, (∀ y, y ∈ V → y ≤ x) → upV V x = V.length
  | [], _ => rfl
  | y :: V, h => by
    rw [upV_cons, if_pos (h y List.mem_cons_self), up_allQ fun z hz => h z (List.mem_cons_of_mem _ hz), List.length_cons]
    omega

set_option maxRecDepth 100000 in
set_option maxHeartbeats 8000000 in
theorem does21_walk {Rq : RqT} (D : RqDoes Rq) (w : World) (B word : Int) (A : List PairV) (a : Option Addr) (cap : Nat) (pa pb x : Int) (hB : I64 B) (hw : Word word) (hA : Pairs w a A) (hl : A.length ≤ 140737488351232) (wa : Word pa) (wb : Word pb) (hx : I64 x) :
    Calls Try.prog 3 #[.agg #[.int .i64 B, .int .u64 word], .slice a A.length cap, .agg #[.int .u64 pa, .int .u64 pb], .int .i64 x] w fun e w' => e = .returned (.bool true) ∧ Below w.heap.size w w' := by
  have HD := Lib.hid D
  have HA := Lib.hid hA
  have HX := Lib.hid hx
  have HWA := Lib.hid wa
  have HWB := Lib.hid wb
  have HAL := Lib.hid (fun W => alive21_any D W)
  have HBD := Lib.hid (fun W hW => build21_any D W B word A a cap hB hw hW hl)
  have HBX := Lib.hid (boxes_newQ w (.int .i64 B) (.int .u64 word) (.int .u64 pa) (.int .u64 pb) 24 27)
  obtain ⟨c0, c1, p0, p1, b0⟩ := HBX.out
  obtain ⟨n, hn⟩ : ∃ n, A.length = n := ⟨_, rfl⟩
  rw [hn] at HBD ⊢
  have HN := Lib.hid hn
  clear D hA hl hx hB hw wa wb hn
  go_enter Try.func3, Try.ntmps3
  go_wp2_with fail
  with_reducible (refine (HAL.out _).mono ?_)
  rintro e w1 ⟨rfl, b1⟩
  have HB1 := Lib.hid (boxq_later HBX.out b1)
  obtain ⟨d0, d1, q0, q1, _⟩ := HB1.out
  clear b1 c0 c1 p0 p1 b0
  go_wp2_with fail
  with_reducible (refine (HBD.out _ (HA.out.call HB1.out.2.2.2.2)).mono ?_)
  rintro e w2 (⟨P, S, M, hv, R, rfl, hg, hf, hq⟩ | ⟨rfl, _, hb2⟩)
  case inr =>
    have HB2 := Lib.hid (boxq_later HB1.out hb2)
    clear hb2 d0 d1 q0 q1
    go_wp2_with fail
    go_ret
    exact ⟨rfl, HB2.out.2.2.2.2⟩
  case inl =>
  have HB2 := Lib.hid (boxq_later HB1.out hq.below)
  obtain ⟨e0, e1, r0, r1, _⟩ := HB2.out
  have HF := Lib.hid hf
  obtain ⟨gb1, gb2, gb3⟩ := goodQ_iff.1 hg
  have HQ := Lib.hid hq
  obtain ⟨V, hV⟩ : ∃ V, allG A = V := ⟨_, rfl⟩
  have HVE := Lib.hid hV
  have HPL := Lib.hid (all_lenQ HF.out.one)
  rw [hV] at HPL
  have HL : Hid ((V.length : Int) ≤ 200) := Lib.hid (by have := HPL.out; have := HF.out.sum; omega)
  have HTP := Lib.hid (tow_P (B := B) word gb3 gb1 V)
  obtain ⟨t, ht⟩ : ∃ t, towQ B word V = t := ⟨_, rfl⟩
  rw [ht] at HTP
  have hrq := hq.rq
  rw [hV, ht] at hrq
  have href := hq.ref
  rw [hV, ht] at href
  have hrows := hq.rows
  rw [hV, ht] at hrows
  have hfu := HTP.out.fuel gb1 gb2 (by have := HL.out; omega)
  have hne : R ≠ [] := fun e => by
    rw [e] at hrows
    exact HTP.out.ne hrows.symm
  have hR20 : R.length ≤ 20 := by rw [← ls_len, hrows]; omega
  have hRs : ∀ r, r ∈ R → r.l.length ≤ 20000 := fun r hr => by
    have := hfu.2.2 r.l (by rw [← hrows]; exact List.mem_map.2 ⟨r, hr, rfl⟩)
    omega
  obtain ⟨T, hT⟩ : ∃ T, wtR t.1 = T := ⟨_, rfl⟩
  have hTv : T = (V.length : Int) := by rw [← hT]; exact HTP.out.wt
  obtain ⟨qx, qe, hqq⟩ : ∃ a b, quanT pa pb t.1 = (a, b) := ⟨_, _, rfl⟩
  obtain ⟨rk, hrk⟩ : ∃ rk, rankR x t.1 = rk := ⟨_, rfl⟩
  obtain ⟨lo, hi, ok, hend⟩ : ∃ a b c, endAD A = (a, b, c) := ⟨_, _, _, rfl⟩
  rw [hend] at hrq
  have HQU := Lib.hid (HD.out.quantile w2 P S B word t _ pa pb hrq HWA.out HWB.out)
  rw [hqq] at HQU
  have HRQ := Lib.hid (fun W (hb : Below w2.heap.size w2 W) => rquan21_any W M B word t.2 hv R pa pb (href.call hb) HWA.out HWB.out hR20 hne hRs)
  rw [hrows, hqq] at HRQ
  have HEN := Lib.hid (fun W (hb : Below w2.heap.size w2 W) => HD.out.ends W P S B word t lo hi ok (HD.out.call hrq hb))
  have HRE := Lib.hid (fun W (hb : Below w2.heap.size w2 W) => rends19_any W a cap A lo hi ok (HA.out.call (HB2.out.2.2.2.2.trans (hb.mono HB2.out.2.2.2.2.size))) (by have := HF.out.len; omega) hend)
  have HUP := Lib.hid (fun W (hb : Below w2.heap.size w2 W) => rup19_any W a cap A 9223372036854775807 T (HA.out.call (HB2.out.2.2.2.2.trans (hb.mono HB2.out.2.2.2.2.size))) ⟨by decide, by decide⟩ (by have := HF.out.len; omega) (by have := HF.out.sum; omega) (by
    rw [(where_up (ok_pos HA.out.ok) _).1, hV, up_allQ fun y hy => (all_ok HA.out.ok y (by rw [hV]; exact hy)).2, hTv]))
  rw [HN.out] at HRE HUP
  have HSM := Lib.hid (fun W (hb : Below w2.heap.size w2 W) => same21_any HD.out W P S B word word t _ M hv R (HD.out.call hrq hb) (href.call hb) hrows hne hR20 hRs)
  have HRT := Lib.hid (fun W (hb : Below w2.heap.size w2 W) => HD.out.rank W P S B word t _ x (HD.out.call hrq hb) HX.out)
  have HRR := Lib.hid (fun W (hb : Below w2.heap.size w2 W) => rrank21_any W M B word t.2 hv R x (href.call hb) HX.out hR20 hne hRs)
  rw [hrows] at HRR
  rw [hrk] at HRT HRR
  have HTO := Lib.hid (fun W (hb : Below w2.heap.size w2 W) => HD.out.total W P S B word t _ (HD.out.call hrq hb))
  rw [hT] at HTO
  have HCF := Lib.hid (fun W (hb : Below w2.heap.size w2 W) => HD.out.config W P S B word t _ (HD.out.call hrq hb))
  have HMO := Lib.hid (fun W (hb : Below w2.heap.size w2 W) => HD.out.most W P S B word t _ (HD.out.call hrq hb))
  have x1 : IntKind.u64.wrap B = B := by rw [IntKind.wrap_u64]; omega
  have x2 : IntKind.u64.wrap (B * 1024) = B * 1024 := by rw [IntKind.wrap_u64]; omega
  have y1 : (qx == qx) = true := by simp
  have y2 : (qe == qe) = true := by simp
  have y3 : (lo == lo) = true := by simp
  have y4 : (hi == hi) = true := by simp
  have y5 : (ok == ok) = true := by simp
  have y6 : (T == T) = true := by simp
  have y7 : (rk == rk) = true := by simp
  have y8 : (B * 1024 == B * 1024) = true := by simp
  have y9 : (B == B) = true := by simp
  have y10 : (word == word) = true := by simp
  clear hq hf hg hV ht hrq href hrows hfu hne hR20 hRs hT hTv hqq hrk hend d0 d1 q0 q1
  go_wp2_with fail
  with_reducible (refine HQU.out.mono ?_)
  rintro e w3 ⟨rfl, b3⟩
  have HB3 := Lib.hid (boxq_later HB2.out b3)
  have HC3 := Lib.hid b3
  obtain ⟨d0, d1, q0, q1, _⟩ := HB3.out
  clear b3 e0 e1 r0 r1
  go_wp2_with fail
  with_reducible (refine (HRQ.out _ HC3.out).mono ?_)
  rintro e w4 ⟨rfl, b4⟩
  have HB4 := Lib.hid (boxq_later HB3.out b4)
  have HC4 := Lib.hid (HC3.out.trans (b4.mono HC3.out.size))
  clear b4 d0 d1 q0 q1
  go_wp2_with fail
  with_reducible (refine (HEN.out _ HC4.out).mono ?_)
  rintro e w5 ⟨rfl, b5⟩
  have HB5 := Lib.hid (boxq_later HB4.out b5)
  have HC5 := Lib.hid (HC4.out.trans (b5.mono HC4.out.size))
  clear b5
  go_wp2_with fail
  with_reducible (refine (HRE.out _ HC5.out).mono ?_)
  rintro e w6 ⟨rfl, b6⟩
  have HB6 := Lib.hid (boxq_later HB5.out b6)
  have HC6 := Lib.hid (HC5.out.trans (b6.mono HC5.out.size))
  clear b6
  go_wp2_with fail
  with_reducible (refine (HUP.out _ HC6.out).mono ?_)
  rintro e w7 ⟨rfl, b7⟩
  have HB7 := Lib.hid (boxq_later HB6.out b7)
  have HC7 := Lib.hid (HC6.out.trans (b7.mono HC6.out.size))
  clear b7
  have HS0 : Hid (w7.drew.cell? ⟨w.heap.size, 0, none⟩ = some (.int .i64 B) ∧ w7.drew.cell? ⟨w.heap.size, 1, none⟩ = some (.int .u64 word) ∧ Below w2.heap.size w2 w7.drew) := Lib.hid ⟨HB7.out.1, HB7.out.2.1, HC7.out.drew⟩
  have HST := Lib.hid (fun (W W' : World) (h : W.cell? ⟨w.heap.size, 0, none⟩ = some (.int .i64 B) ∧ W.cell? ⟨w.heap.size, 1, none⟩ = some (.int .u64 word) ∧ Below w2.heap.size w2 W) (hb : Below W.heap.size W W') => (⟨cell_later hb h.1, cell_later hb h.2.1, h.2.2.trans (hb.mono h.2.2.size)⟩ : W'.cell? ⟨w.heap.size, 0, none⟩ = some (.int .i64 B) ∧ W'.cell? ⟨w.heap.size, 1, none⟩ = some (.int .u64 word) ∧ Below w2.heap.size w2 W'))
  go_wp2_with fail
  go_region_held3 (fun w' => w'.cell? ⟨w.heap.size, 0, none⟩ = some (.int .i64 B) ∧ w'.cell? ⟨w.heap.size, 1, none⟩ = some (.int .u64 word) ∧ Below w2.heap.size w2 w')
    (first | exact HS0.out | exact HST.out _ _ (by assumption) hbA | exact HST.out _ _ (by assumption) hbB | exact HST.out _ _ (by assumption) hbC | exact HST.out _ _ (by assumption) hbD | exact HST.out _ _ (by assumption) hbE | assumption)
    ((first
      | (go_at_call 18; (with_reducible (refine (HSM.out _ (And.right (And.right (by assumption)))).mono ?_)); rintro e wA ⟨rfl, hbA⟩)
      | (go_at_call 19; (with_reducible (refine (HRT.out _ (And.right (And.right (by assumption)))).mono ?_)); rintro e wB ⟨rfl, hbB⟩)
      | (go_at_call 20; (with_reducible (refine (HRR.out _ (And.right (And.right (by assumption)))).mono ?_)); rintro e wF ⟨rfl, rfl⟩)
      | (go_at_call 21; (with_reducible (refine (HTO.out _ (And.right (And.right (by assumption)))).mono ?_)); rintro e wC ⟨rfl, hbC⟩)
      | (go_at_call 22; (with_reducible (refine (HCF.out _ (And.right (And.right (by assumption)))).mono ?_)); rintro e wD ⟨rfl, hbD⟩)
      | (go_at_call 23; (with_reducible (refine (HMO.out _ (And.right (And.right (by assumption)))).mono ?_)); rintro e wE ⟨rfl, hbE⟩)))
  rename_i hHeld
  have HBH := Lib.hid (HB2.out.2.2.2.2.trans (hHeld.2.2.mono HB2.out.2.2.2.2.size))
  clear hHeld HS0 HST
  go_wp2_with fail
  go_ret
  exact ⟨rfl, HBH.out⟩
end Go.Proofs.Ytbdfmnlfdhhnjaa
