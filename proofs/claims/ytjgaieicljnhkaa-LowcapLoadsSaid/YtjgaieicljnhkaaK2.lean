/-
  Texts joined, in build order: LowQ, Back, LowR, StripX, LowX, Open, OpenS, PairV, Ref9, LowB.
-/
import Derived.Test.YtjgaieicljnhkaaK1
import Derived.RangeFuncNested
import Derived.RangeFuncBound
import Derived.RangeFuncCalls
import Derived.RangeFuncLeaves
import Derived.Shelf.Abstract
import Derived.Shelf.RegionOpen
import Derived.WalkKit
import Derived.OwnWalkIn
import Derived.TacticsInMore
import Derived.LoopNIn
import Derived.LoopIn
import Derived.Lib.SmallJoins
import Derived.Deep.RegionWith
import Derived.Test.YtjgaieicljnhkaaRows
import Derived.ProofKit
import Derived.OpenShut
import Derived.SizedLaws
import Derived.Deep.QuietTactic
import Derived.BigQuiet
import Derived.Deep.LoopGhost
/-
  Walks: package lowcap: New, Add, fit, Load.
-/
namespace Go.Proofs.Ytjgaieicljnhkaa
set_option linter.unusedVariables false
set_option linter.unusedSimpArgs false
open Go.RowKit

/-- At block B lies a lowcap of m indexes that keeps K, of T in all. -/
def LowX (St : World → Nat → (Nat → Prop) → Int → List PairV → Prop) (w : World) (B : Nat) (S : Nat → Prop) (m : Int) (K : List PairV) (T : Int) : Prop := Lwp m K T ∧ LowRaw St w B S m K (T - sumP K)

set_option maxHeartbeats 1000000 in
theorem lnew_any {St : World → Nat → (Nat → Prop) → Int → List PairV → Prop} (D : StripDoes St) (w : World) (m : Int) (h1 : 1 ≤ m) (h2 : m ≤ 4096) :
    Calls Try.prog 10 #[.int .i64 m] w fun e w' => ∃ B S, e = .returned (.tuple #[.pointer (some ⟨B, 0, none⟩), .int .i64 0]) ∧ LowRaw St w' B S m [] 0 ∧ (∀ k, S k → w.heap.size ≤ k) ∧ Below w.heap.size w w' := by
  have HD := Lib.hid D
  clear D
  go_enter Try.func10, Try.ntmps10
  go_wp2_with fail
  refine (HD.out.new _ m h1 h2).mono ?_
  rintro e w1 ⟨C, S0, rfl, hst, hs0, b1⟩
  have HST := Lib.hid hst
  have HS0 := Lib.hid hs0
  have z1 := b1.size
  clear hst hs0
  go_wp2_with fail
  refine bodyPost_ret (v := .tuple #[.pointer (some ⟨w1.heap.size, 0, none⟩), .int .i64 0]) (by simp [results, Try.results10, go_sem]) rfl ?_
  have hb : Below w1.heap.size w1 (w1.alloc (.cells #[.int .i64 m, .pointer (some ⟨C, 0, none⟩), .int .u64 0] 63)) := (Below.refl _ _).alloc (Nat.le_refl _) _
  refine ⟨w1.heap.size, fun k => k = w1.heap.size ∨ S0 k, rfl, ⟨C, S0, heap_alloc_new _ _, HD.out.call HST.out hb, fun h => by have := HD.out.lt _ _ _ _ _ HST.out _ h; omega, fun k => Iff.rfl⟩, ?_, b1.alloc z1 _⟩
  rintro k (rfl | hk)
  · exact z1
  · exact HS0.out k hk
set_option maxHeartbeats 1000000 in
theorem lbad_any {St : World → Nat → (Nat → Prop) → Int → List PairV → Prop} (D : StripDoes St) (w : World) (m : Int) (hm : I64 m) (hb : m < 1 ∨ 4096 < m) :
    Calls Try.prog 10 #[.int .i64 m] w fun e w' => e = .returned (.tuple #[.pointer none, .int .i64 1]) ∧ Below w.heap.size w w' := by
  have HB := Lib.hid (D.bad w m hm hb)
  clear D hb
  go_enter Try.func10, Try.ntmps10
  go_wp2_with fail
  refine HB.out.mono ?_
  rintro e w1 ⟨rfl, b1⟩
  go_wp2_with fail
  go_ret2
  exact ⟨rfl, b1⟩

/-- How many there are in all. -/
theorem ltotal_raw {St : World → Nat → (Nat → Prop) → Int → List PairV → Prop} (D : StripDoes St) {w : World} {B : Nat} {S : Nat → Prop} {m T : Int} {K : List PairV} (h : LowX St w B S m K T) (hl : K.length ≤ 900) :
    Calls Try.prog 18 #[.pointer (some ⟨B, 0, none⟩)] w fun e w' => e = .returned (.int .u64 T) ∧ Below w.heap.size w w' := by
  obtain ⟨hp, C, S0, hb, hst, hn, hS⟩ := h
  obtain ⟨c0, c1, c2⟩ := three_cells hb
  have h1 := ltotal_of w _ _ (T - sumP K) (sumP K) (ownsl_at c1) (lostsl_at c2) (D.total _ _ _ _ _ hst hl) (by have := hp.sum; omega) hp.pos (by have := hp.top; omega)
  rwa [show T - sumP K + sumP K = T by omega] at h1

set_option maxRecDepth 100000 in
set_option maxHeartbeats 2000000 in
theorem ladd_any {St : World → Nat → (Nat → Prop) → Int → List PairV → Prop} (D : StripDoes St) (w : World) (B : Nat) (S : Nat → Prop) (m : Int) (K : List PairV) (T i c : Int) (h : LowX St w B S m K T) (hl : K.length ≤ 700) (hi : I64 i) (hc : Word c) :
    Calls Try.prog 11 #[.pointer (some ⟨B, 0, none⟩), .int .i64 i, .int .u64 c] w fun e w' => ∃ S', e = .returned (.int .i64 (lwErr T c)) ∧ LowX St w' B S' m (lwRow m K T i c) (lwSum T c) ∧ Keeps S w w' ∧ (∀ k, S' k → S k ∨ w.heap.size ≤ k) := by
  have HT := Lib.hid (ltotal_raw D h (by omega))
  have HX := Lib.hid h
  have HD := Lib.hid D
  have HI := Lib.hid hi
  have hp := h.1
  have HP := Lib.hid hp
  have t1 := hp.top
  have t0 : 0 ≤ T := by have := hp.pos; have := hp.sum; omega
  obtain ⟨i0, i1⟩ := hi
  obtain ⟨w0, w1⟩ := hc
  have hcases := lwErr_cases (T := T) (c := c) ⟨w0, w1⟩
  have HSAME : Hid (∀ w', Below w.heap.size w w' → lwErr T c ≠ 0 → LowX St w' B S m (lwRow m K T i c) (lwSum T c)) := Lib.hid (fun w' hb he => by
    unfold lwRow lwSum
    rw [if_neg he, if_neg he]
    exact ⟨HP.out, raw_call HD.out HX.out.2 hb⟩)
  clear D h hp
  rcases hcases with ⟨rfl, e⟩ | ⟨hc0, hfull, e⟩ | ⟨hc0, hfit, e⟩
  · have E := Lib.hid e
    clear e
    go_enter Try.func11, Try.ntmps11
    go_wp2_with fail
    go_ret
    exact ⟨S, ret_int E.out.symm, HSAME.out _ (Below.refl _ _) (by rw [E.out]; decide), Keeps.refl _ _, fun k hk => Or.inl hk⟩
  · have E := Lib.hid e
    have c00 : (c == 0) = false := by simp; omega
    obtain ⟨pb, pq⟩ := plus2_no (x := T) (y := c) (by omega)
    have PB := Lib.hid pb
    have PQ := Lib.hid pq
    clear e pb pq
    go_enter Try.func11, Try.ntmps11
    go_wp2_with fail
    refine HT.out.mono ?_
    rintro e w2 ⟨rfl, b2⟩
    go_wp2_with fail
    refine (plus_two T c 0 false _ _ _ ⟨by omega, by omega⟩ ⟨by omega, by omega⟩ (two_words w2 _ _ _).1 (two_words w2 _ _ _).2 PQ.out PB.out).mono ?_
    rintro e w3 ⟨rfl, rfl⟩
    go_wp2_with fail
    go_ret
    have hb := b2.alloc b2.size (.cells #[.int .u64 T, .int .u64 c] 32)
    exact ⟨S, ret_int E.out.symm, HSAME.out _ hb (by rw [E.out]; decide), Keeps.of_below hb, fun k hk => Or.inl hk⟩
  · have E := Lib.hid e
    have c00 : (c == 0) = false := by simp; omega
    obtain ⟨pb, pq⟩ := plus2_yes (x := T) (y := c) (by omega)
    have PB := Lib.hid pb
    have PQ := Lib.hid pq
    have HPUT : Hid (∀ w', Below w.heap.size w w' → Calls Try.prog 34 #[.pointer (some ⟨B, 0, none⟩), .int .i64 i, .int .u64 c] w' fun e w'' => e = .returned (.tuple #[]) ∧ ∃ S', LowRaw St w'' B S' m (keepP m (addP K i c)) (T + c - sumP (keepP m (addP K i c))) ∧ Keeps S w' w'' ∧ (∀ j, S' j → S j ∨ w'.heap.size ≤ j)) := Lib.hid (fun w' hb => by
      have hp := HP.out
      have h1 := lput_any HD.out w' B S m K (T - sumP K) i c (raw_call HD.out HX.out.2 hb) hp.good hp.ok hp.kept (by omega) ⟨i0, i1⟩ hc0 hp.m1 hp.m2 (by have := hp.sum; omega) (by omega)
      rwa [show T - sumP K + sumP K + c = T + c by omega] at h1)
    clear e pb pq
    go_enter Try.func11, Try.ntmps11
    go_wp2_with fail
    refine HT.out.mono ?_
    rintro e w2 ⟨rfl, b2⟩
    go_wp2_with fail
    refine (plus_two T c (T + c) true _ _ _ ⟨by omega, by omega⟩ ⟨by omega, by omega⟩ (two_words w2 _ _ _).1 (two_words w2 _ _ _).2 PQ.out PB.out).mono ?_
    rintro e w3 ⟨rfl, rfl⟩
    have hb := b2.alloc b2.size (.cells #[.int .u64 T, .int .u64 c] 32)
    go_wp2_with fail
    refine (HPUT.out _ hb).mono ?_
    rintro e w4 ⟨rfl, S4, hr4, k4, hs4⟩
    have HR4 := Lib.hid hr4
    have HB := Lib.hid hb
    clear hr4 hb
    go_wp2_with fail
    go_ret
    refine ⟨S4, ret_int E.out.symm, ?_, (Keeps.of_below HB.out).trans k4 (fun j hj => Or.inl hj), fun j hj => ?_⟩
    · unfold lwRow lwSum
      rw [if_pos E.out, if_pos E.out]
      exact ⟨HP.out.add HI.out hc0 (by omega), HR4.out⟩
    · rcases hs4 j hj with h | h
      · exact Or.inl h
      · have := HB.out.size; exact Or.inr (by omega)

set_option maxRecDepth 100000 in
set_option maxHeartbeats 2000000 in
theorem lfit_any (w : World) (m : Int) (A : Option Addr) (cap : Nat) (L : List PairV) (l : Int) (b : Bool) (h : Pairs w A L) (hl : L.length ≤ 900) (hw : Word l) (m1 : 1 ≤ m) (m2 : m ≤ 4096) (hb : loadB m L l = b) :
    Calls Try.prog 44 #[.int .i64 m, .slice A L.length cap, .int .u64 l] w fun e w' => e = .returned (.bool b) ∧ Below w.heap.size w w' := by
  have HP := Lib.hid h
  have HL := Lib.hid hl
  obtain ⟨l0, l1⟩ := hw
  obtain ⟨g, hg⟩ : ∃ g, (goodB L && decide ((L.length : Int) ≤ m)) = g := ⟨_, rfl⟩
  have HG := Lib.hid (good_does w A cap L m g h (by omega) ⟨by omega, by omega⟩ hg)
  unfold loadB at hb
  rw [hg] at hb
  cases g with
  | false =>
    simp only [Bool.false_and] at hb
    subst hb
    clear h hg
    go_enter Try.func44, Try.ntmps44
    go_wp2_with fail
    refine HG.out.mono ?_
    rintro e w2 ⟨rfl, b2⟩
    go_wp2_with fail
    go_ret
    exact ⟨rfl, b2⟩
  | true =>
    have hgood : GoodP L := goodB_true.1 (Bool.and_eq_true_iff.1 hg).1
    simp only [Bool.true_and] at hb
    by_cases hL : L = []
    · have hb2 : (l == 0) = b := by
        rw [← hb, hL]
        simp
        rw [show sumP [] = 0 from rfl]
        by_cases hz : l = 0 <;> simp [hz]
      subst hL
      clear hb h hg
      go_enter Try.func44, Try.ntmps44
      go_wp2_with fail
      refine HG.out.mono ?_
      rintro e w2 ⟨rfl, b2⟩
      go_wp2_with fail
      go_ret
      exact ⟨by rw [← hb2]; rfl, b2⟩
    · have hpos : 0 < L.length := by cases L with
        | nil => exact absurd rfl hL
        | cons p r => simp
      have hb2 : (decide (sumP L + l ≤ 9223372036854775807) && decide (endP L - (firP L).1 < m)) = b := by
        rw [← hb]; simp [hL]
      obtain ⟨px, pc, hx0⟩ : ∃ px pc, L[0]? = some (px, pc) := ⟨L[0].1, L[0].2, List.getElem?_eq_getElem hpos⟩
      obtain ⟨qx, qc, hx1⟩ : ∃ qx qc, L[L.length - 1]? = some (qx, qc) := ⟨L[L.length - 1].1, L[L.length - 1].2, List.getElem?_eq_getElem (by omega)⟩
      have h1 : (firP L).1 = px := by unfold firP; rw [List.head?_eq_getElem?, hx0]; rfl
      have h2 : endP L = qx := by unfold endP lasP; rw [List.getLast?_eq_getElem?, hx1]; rfl
      have hle : px ≤ qx := by
        rw [← h1, ← h2]
        obtain ⟨p, hp, e⟩ := end_mem hL
        rw [← e]; exact good_fir_end hgood p hp
      have hsp := sumP_pos (ok_pos h.ok)
      rw [h1, h2] at hb2
      obtain ⟨nn, hnn⟩ : ∃ nn, L.length - 1 = nn := ⟨_, rfl⟩
      rw [hnn] at hx1
      obtain ⟨ga, off, rfl, hbl, d0, _⟩ := h.at_ 0 _ hx0
      obtain ⟨ga', off', e', _, g0, _⟩ := h.at_ nn _ hx1
      obtain ⟨rfl, rfl, _⟩ := Addr.mk.inj (Option.some.inj e')
      simp only [Nat.zero_mul, Nat.add_zero] at d0
      simp only at g0
      have ok0 := (h.ok _ (List.mem_of_getElem? hx0)).1
      have ok1 := (h.ok _ (List.mem_of_getElem? hx1)).1
      simp only at ok0 ok1
      have hgap : gap px qx = qx - px := by unfold gap; split <;> omega
      have HGAP := Lib.hid (lgap_any px qx ok0 ok1)
      rw [hgap] at HGAP
      obtain ⟨s, hs⟩ : ∃ s, sumP L = s := ⟨_, rfl⟩
      rw [hs] at hb2 hsp
      have HTOT : Hid (∀ w', Below w.heap.size w w' → Calls Try.prog 53 #[.slice (some ⟨ga, off, none⟩) L.length cap] w' fun e w'' => e = .returned (.tuple #[.int .u64 (totalP L), .bool (fitsB L)]) ∧ Below w'.heap.size w' w'') := Lib.hid (fun w' hb' => total_does w' _ cap L _ _ (HP.out.call hb') (by have := HL.out; omega) rfl rfl)
      have hfb : fitsB L = decide (s ≤ 9223372036854775807) := by unfold fitsB; rw [hs]
      have htp : totalP L = if s ≤ 9223372036854775807 then s else 0 := by unfold totalP; rw [hfb, hs]; by_cases h : s ≤ 9223372036854775807 <;> simp [h]
      obtain ⟨N, hN⟩ : ∃ N, L.length = N := ⟨_, rfl⟩
      rw [hN] at HG HTOT hpos hnn hl ⊢
      have kN : (0 : Int) < (N : Int) := by omega
      have k0 : ((N : Int) == 0) = false := by simp; omega
      have u1 : IntKind.i64.wrap ((N : Int) - 1) = (nn : Int) := by rw [IntKind.wrap_i64]; omega
      have u2 : (N : Int) - 1 = (nn : Int) := by omega
      have u3 : (nn : Int) < (N : Int) := by omega
      have u4 : (0 : Int) ≤ (nn : Int) := by omega
      have u5 : IntKind.i64.wrap (nn : Int) = (nn : Int) := by rw [IntKind.wrap_i64]; omega
      have e1 : IntKind.u64.wrap m = m := by rw [IntKind.wrap_u64]; omega
      obtain ⟨p0, p1⟩ := ok0
      obtain ⟨q0, q1⟩ := ok1
      by_cases hf : s ≤ 9223372036854775807
      · rw [hfb, htp, if_pos hf, decide_eq_true hf] at HTOT
        by_cases hf2 : s + l ≤ 9223372036854775807
        · rw [decide_eq_true hf2, Bool.true_and] at hb2
          obtain ⟨pb, pq⟩ := plus2_yes (x := s) (y := l) hf2
          have PB := Lib.hid pb
          have PQ := Lib.hid pq
          clear h hg hgood hb hL hx0 hx1 h1 h2 hgap hs hfb htp hnn pb pq e' hl hpos hbl hN
          go_enter Try.func44, Try.ntmps44
          go_wp2_with fail
          refine HG.out.mono ?_
          rintro e w2 ⟨rfl, b2⟩
          go_wp2_with fail
          refine (HTOT.out _ b2).mono ?_
          rintro e w3 ⟨rfl, b3⟩
          go_wp2_with fail
          refine (plus_two s l (s + l) true _ _ _ ⟨by omega, by omega⟩ ⟨by omega, by omega⟩ (two_words w3 _ _ _).1 (two_words w3 _ _ _).2 PQ.out PB.out).mono ?_
          rintro e w4 ⟨rfl, rfl⟩
          have b4 := (b2.trans (b3.mono b2.size)).alloc (Nat.le_trans b2.size b3.size) (.cells #[.int .u64 s, .int .u64 l] 32)
          have d4 := cell_later b4 d0
          have g4 := cell_later b4 g0
          go_wp2_with fail
          go_quiet ((go_at_call 52; exact Calls.quiet_of_same ((HGAP.out _).mono fun e w' ⟨h1, h2⟩ => ⟨h1, h2.symm⟩)))
          go_wp2_with fail
          go_ret
          exact ⟨by rw [← hb2]; rfl, below_drewN b4 _⟩
        · have hb3 : b = false := by rw [← hb2, decide_eq_false hf2]; rfl
          subst hb3
          obtain ⟨pb, pq⟩ := plus2_no (x := s) (y := l) (by omega)
          have PB := Lib.hid pb
          have PQ := Lib.hid pq
          clear h hg hgood hb hL hx0 hx1 h1 h2 hgap hs hfb htp hnn pb pq e' hl hpos hbl hN hb2
          go_enter Try.func44, Try.ntmps44
          go_wp2_with fail
          refine HG.out.mono ?_
          rintro e w2 ⟨rfl, b2⟩
          go_wp2_with fail
          refine (HTOT.out _ b2).mono ?_
          rintro e w3 ⟨rfl, b3⟩
          go_wp2_with fail
          refine (plus_two s l 0 false _ _ _ ⟨by omega, by omega⟩ ⟨by omega, by omega⟩ (two_words w3 _ _ _).1 (two_words w3 _ _ _).2 PQ.out PB.out).mono ?_
          rintro e w4 ⟨rfl, rfl⟩
          have b4 := (b2.trans (b3.mono b2.size)).alloc (Nat.le_trans b2.size b3.size) (.cells #[.int .u64 s, .int .u64 l] 32)
          go_wp2_with fail
          go_quiet (fail)
          go_wp2_with fail
          go_ret
          exact ⟨rfl, below_drewN b4 _⟩
      · rw [hfb, htp, if_neg hf, decide_eq_false hf] at HTOT
        have hb3 : b = false := by
          rw [← hb2]
          rw [decide_eq_false (show ¬ s + l ≤ 9223372036854775807 by omega)]; rfl
        subst hb3
        clear h hg hgood hb hL hx0 hx1 h1 h2 hgap hs hfb htp hnn e' hl hpos hbl hN hb2
        go_enter Try.func44, Try.ntmps44
        go_wp2_with fail
        refine HG.out.mono ?_
        rintro e w2 ⟨rfl, b2⟩
        go_wp2_with fail
        refine (HTOT.out _ b2).mono ?_
        rintro e w3 ⟨rfl, b3⟩
        go_wp2_with fail
        go_ret
        exact ⟨rfl, b2.trans (b3.mono b2.size)⟩

/-- A row that is loaded pair by pair. -/
theorem take_kept {m : Int} {L : List PairV} {k : Nat} (hm : 0 < m) (hg : GoodP L) (hs : L ≠ [] → endP L - (firP L).1 < m) : keepP m (L.take k) = L.take k := by
  unfold keepP highP
  refine List.filter_eq_self.2 fun p hp => ?_
  have hL : L ≠ [] := by rintro rfl; rw [List.take_nil] at hp; cases hp
  have h1 := good_fir_end hg p (List.mem_of_mem_take hp)
  have hne : L.take k ≠ [] := by intro h; rw [h] at hp; cases hp
  obtain ⟨q, hq, e⟩ := end_mem hne
  have h2 := end_ge hg q (List.mem_of_mem_take hq)
  have := hs hL
  simp; omega
theorem load_step {m : Int} {L : List PairV} {k : Nat} {p : PairV} (hm : 0 < m) (hg : GoodP L) (hs : L ≠ [] → endP L - (firP L).1 < m) (hk : L[k]? = some p) : keepP m (addP (L.take k) p.1 p.2) = L.take (k + 1) := by
  have hg1 := good_take (k + 1) hg
  have hlt : ∀ q, q ∈ L.take k → q.1 < p.1 := fun q hq => by
    rw [take_snocP hk] at hg1
    exact (good_app hg1).2.2 q hq p (by simp)
  have hc : countP (L.take k) p.1 = 0 := by
    unfold countP
    rw [List.filter_eq_nil_iff.2 (fun q hq => by have := hlt q hq; simp; omega)]; rfl
  have hp := hg.1 p (List.mem_of_getElem? hk)
  have e : addP (L.take k) p.1 p.2 = L.take (k + 1) := by
    refine good_ext (add_good (good_take k hg) (by omega)) hg1 fun j => ?_
    rw [count_add (by omega), take_snocP hk, countP_app, countP_one]
    by_cases e : j = p.1
    · rw [if_pos e, if_pos e.symm]
    · rw [if_neg e, if_neg (fun h => e h.symm)]
  rw [e]
  exact take_kept hm hg hs

set_option maxRecDepth 100000 in
set_option maxHeartbeats 2000000 in
theorem lunfit_any {St : World → Nat → (Nat → Prop) → Int → List PairV → Prop} (D : StripDoes St) (w : World) (m : Int) (A : Option Addr) (cap : Nat) (L : List PairV) (l : Int) (m1 : 1 ≤ m) (m2 : m ≤ 4096) (h : Pairs w A L) (hl : L.length ≤ 300) (hw : Word l) (hb : loadB m L l = false) :
    Calls Try.prog 30 #[.int .i64 m, .slice A L.length cap, .int .u64 l] w fun e w' => e = .returned (.tuple #[.pointer none, .int .i64 1]) ∧ Below w.heap.size w w' := by
  have HN := Lib.hid (lnew_any D w m m1 m2)
  have HF : Hid (∀ w', Below w.heap.size w w' → Calls Try.prog 44 #[.int .i64 m, .slice A L.length cap, .int .u64 l] w' fun e w'' => e = .returned (.bool false) ∧ Below w'.heap.size w' w'') := Lib.hid (fun w' hb' => lfit_any w' m A cap L l false (h.call hb') (by omega) hw m1 m2 hb)
  clear D h hb
  go_enter Try.func30, Try.ntmps30
  go_wp2_with fail
  refine HN.out.mono ?_
  rintro e w1 ⟨B, S, rfl, hr1, hs1, b1⟩
  have z1 := b1.size
  have HR := Lib.hid hr1
  have HS := Lib.hid hs1
  clear hr1 hs1
  go_wp2_with fail
  refine (HF.out _ b1).mono ?_
  rintro e w2 ⟨rfl, b2⟩
  go_wp2_with fail
  go_ret2
  exact ⟨rfl, b1.trans (b2.mono z1)⟩

set_option maxRecDepth 100000 in
set_option maxHeartbeats 2000000 in
theorem lload_any {St : World → Nat → (Nat → Prop) → Int → List PairV → Prop} (D : StripDoes St) (w : World) (m : Int) (A : Option Addr) (cap : Nat) (L : List PairV) (l : Int) (m1 : 1 ≤ m) (m2 : m ≤ 4096) (h : Pairs w A L) (hl : L.length ≤ 300) (hw : Word l) (hb : loadB m L l = true) :
    Calls Try.prog 30 #[.int .i64 m, .slice A L.length cap, .int .u64 l] w fun e w' => ∃ B S, e = .returned (.tuple #[.pointer (some ⟨B, 0, none⟩), .int .i64 0]) ∧ LowRaw St w' B S m L l ∧ (∀ k, S k → w.heap.size ≤ k) ∧ Below w.heap.size w w' := by
  have HN := Lib.hid (lnew_any D w m m1 m2)
  have HF : Hid (∀ w', Below w.heap.size w w' → Calls Try.prog 44 #[.int .i64 m, .slice A L.length cap, .int .u64 l] w' fun e w'' => e = .returned (.bool true) ∧ Below w'.heap.size w' w'') := Lib.hid (fun w' hb' => lfit_any w' m A cap L l true (h.call hb') (by omega) hw m1 m2 hb)
  obtain ⟨hg, _, _, hsum, hnear⟩ := load_true hb
  have HD := Lib.hid D
  have HP := Lib.hid h
  have HG := Lib.hid hg
  have HNE := Lib.hid hnear
  have HL := Lib.hid hl
  have HSM := Lib.hid hsum
  have HSP := Lib.hid (fun k => sumP_take (L := L) k (ok_pos h.ok))
  obtain ⟨l0, l1⟩ := hw
  clear D h hb hg hnear hl hsum
  go_enter Try.func30, Try.ntmps30
  go_wp2_with fail
  refine HN.out.mono ?_
  rintro e w1 ⟨B, S, rfl, hr1, hs1, b1⟩
  have z1 := b1.size
  have HR := Lib.hid hr1
  have HS := Lib.hid hs1
  clear hr1 hs1
  go_wp2_with fail
  refine (HF.out _ b1).mono ?_
  rintro e w2 ⟨rfl, b2⟩
  have hbb := b1.trans (b2.mono z1)
  have HR2 := Lib.hid (raw_call HD.out HR.out b2)
  clear b1 b2
  go_wp2_with fail
  go_loopw [28] (fun j wr => ∃ (k : Nat) (S' : Nat → Prop), k ≤ L.length ∧ j = .int .i64 k ∧ LowRaw St wr B S' m (L.take k) 0 ∧ (∀ x, S' x → w.heap.size ≤ x) ∧ Below w.heap.size w wr) (fun j _ => L.length - (intOf j).toNat)
  case atStart => exact ⟨0, S, Nat.zero_le _, rfl, HR2.out, HS.out, hbb⟩
  case round =>
    clear hbb HR2 HR HS
    obtain ⟨k, S', hk, rfl, hr, hs, hb2⟩ := hrel
    have hbs := hb2.size
    have HR := Lib.hid hr
    have HS := Lib.hid hs
    clear hr hs
    by_cases hlt : k < L.length
    · have kk : (k : Int) < L.length := by omega
      have hxk : L[k]? = some L[k] := List.getElem?_eq_getElem hlt
      generalize hit : L[k] = x at *
      obtain ⟨xi, xc⟩ := x
      obtain ⟨b1, off, rfl, hbl, c0, c1⟩ := (HP.out.call hb2).at_ k _ hxk
      simp only at c0 c1
      have hok := HP.out.ok _ (List.mem_of_getElem? hxk)
      have hgd := HG.out.1 _ (List.mem_of_getElem? hxk)
      have HST := Lib.hid (load_step (by omega) HG.out HNE.out hxk)
      have HSS := Lib.hid (psum_step hxk)
      have HOK := Lib.hid hok
      obtain ⟨⟨o1, o2⟩, o3, o4⟩ := hok
      simp only at o1 o2 o3 o4 hgd
      have hb3 : Below w.heap.size w (wr.alloc (.cells #[.int .i64 xi, .int .u64 xc] 34)) := hb2.alloc hbs _
      have HPUT := Lib.hid (lput_any HD.out _ B S' m (L.take k) 0 xi xc (raw_call HD.out HR.out ((Below.refl _ _).alloc (Nat.le_refl _) (.cells #[.int .i64 xi, .int .u64 xc] 34))) (good_take k HG.out) (fun p hp => HP.out.ok p (List.mem_of_mem_take hp)) (take_kept (by omega) HG.out HNE.out)
        (by rw [List.length_take]; have := HL.out; omega) HOK.out.1 (by omega) m1 m2 (Int.le_refl _) (by have h1 : sumP (L.take (k + 1)) = sumP (L.take k) + xc := HSS.out; have h2 := HSP.out (k + 1); have h3 := HSM.out; omega))
      rw [show keepP m (addP (L.take k) xi xc) = L.take (k + 1) from HST.out] at HPUT
      clear hxk hit
      go_wp2_with fail
      refine HPUT.out.mono ?_
      rintro e w4 ⟨rfl, S4, hr4, k4, hs4⟩
      have hb4 := k4.below hb3 hb3.size HS.out
      have HR4 : Hid (LowRaw St w4 B S4 m (L.take (k + 1)) 0) := Lib.hid (by
        have h1 : sumP (L.take (k + 1)) = sumP (L.take k) + xc := HSS.out
        rwa [show (0 : Int) + sumP (L.take k) + xc - sumP (L.take (k + 1)) = 0 by omega] at hr4)
      have HS4 : Hid (∀ x, S4 x → w.heap.size ≤ x) := Lib.hid (fun x hx => by
        rcases hs4 x hx with h | h
        · exact HS.out x h
        · have := hb3.size; omega)
      clear hr4 k4 hs4 hb3
      go_wp2_with fail
      go_roundw
      case rel => exact ⟨k + 1, S4, by omega, by go_num, HR4.out, HS4.out, hb4⟩
      case measure => simp [intOf]; omega
    · obtain rfl : k = L.length := by omega
      have kk : ¬ (L.length : Int) < L.length := by omega
      rw [List.take_length] at HR
      obtain ⟨C, S0, hb, _⟩ := id HR.out
      obtain ⟨c0, c1, c2⟩ := three_cells hb
      have f2 := free8 hb 2
      clear hb
      go_wp2_with fail
      refine bodyPost_ret (v := .tuple #[.pointer (some ⟨B, 0, none⟩), .int .i64 0]) (by simp [results, Try.results30, go_sem]) rfl ?_
      exact ⟨B, rfl, S', raw_lost HD.out HR.out l, HS.out, hb2.setCell (p := ⟨B, 2, none⟩) (HS.out B (raw_B HR.out)) _⟩
end Go.Proofs.Ytjgaieicljnhkaa

/-
  Walk: slices.Backward of a row of pairs: it goes over the row from its end to its beginning.
-/
namespace Go.Proofs.Ytjgaieicljnhkaa
set_option linter.unusedVariables false
set_option linter.unusedSimpArgs false
open Go.RowKit Go.Shelf
attribute [local go_sem] Oper.semAt_some

/-- An index and its pair, as they are handed to a loop. -/
def encBk (L : List PairV) (k : Fin L.length) : Array Value := #[.int .i64 (k.1 : Int), .agg #[.int .i64 (L[k.1]).1, .int .u64 (L[k.1]).2]]
/-- All indexes, the last one first. -/
def bkL (L : List PairV) : List (Fin L.length) := (List.finRange L.length).reverse
theorem bkL_len (L : List PairV) : (bkL L).length = L.length := by unfold bkL; simp
theorem bkL_at (L : List PairV) (k q : Nat) (h : q < L.length) (hq : q + k + 1 = L.length) : (bkL L)[k]? = some ⟨q, h⟩ := by
  unfold bkL
  rw [List.getElem?_reverse (by simp; omega), List.getElem?_eq_getElem (by simp; omega)]
  simp
  omega
/-- These blocks are as they were. -/
def KeepB (U : Nat → Prop) (W W' : World) : Prop := ∀ k, U k → W'.heap[k]? = W.heap[k]?
theorem keepB_t {U : Nat → Prop} {A B C : World} (h : KeepB U A B) (k : KeepB U B C) : KeepB U A C := fun i hi => (k i hi).trans (h i hi)
theorem keepB_b {U : Nat → Prop} {n : Nat} (hU : ∀ k, U k → k < n) (W : World) (l : Nat) (o o' : Obj) (hl : n ≤ l) (_ : W.heap[l]? = some o) (_ : o.isCells = false) (_ : o.isWalk = false) : KeepB U W (W.putObj l o') :=
  fun k hk => World.putObj_heap_other (by have := hU k hk; omega)

set_option maxRecDepth 1000000 in
set_option maxHeartbeats 1000000 in
theorem back_in {L : List PairV} (n : Nat) (hn : 1 ≤ n) (l Bx : Nat) (A : Option Addr) (cap : Nat) (U : Nat → Prop) (w : World) (hUb : U Bx) (hUg : ∀ g off, A = some ⟨g, off, none⟩ → U g) (hP : Pairs w A L) (hl : L.length ≤ 100000) (hbx : w.cell? ⟨Bx, 0, none⟩ = some (.slice A L.length cap))
    (J Jx : List (Fin L.length) → World → Prop)
    (hY : ∀ pre x W1, J pre W1 → pre.length < L.length → YieldAt Fence.wide (n - 1) Try.prog l (encBk L x) W1 fun e W' =>
      (e = .returned (.bool true) ∧ J (pre ++ [x]) W' ∧ KeepB U W1 W') ∨ (e = .returned (.bool false) ∧ Jx (pre ++ [x]) W'))
    (W : World) (hk : KeepB U w W) (h0 : J [] W) :
    CallsIn Fence.wide n Try.prog 54 #[.func (.yield l) #[] #[], .pointer (some ⟨Bx, 0, none⟩)] W fun e W' => (∃ v, e = .returned v) ∧
      ((∃ ys, ys = bkL L ∧ J ys W') ∨ (∃ pre, True ∧ Jx pre W')) := by
  have HBX : Hid (∀ W', KeepB U w W' → W'.cell? ⟨Bx, 0, none⟩ = some (.slice A L.length cap)) := Lib.hid (fun W' h => (World.cell?_of_block (a := ⟨Bx, 0, none⟩) (h Bx hUb)).trans hbx)
  have HC : Hid (∀ W' k p, KeepB U w W' → L[k]? = some p → ∃ g off, A = some ⟨g, off, none⟩ ∧ W'.cell? ⟨g, off + k * 2, none⟩ = some (.int .i64 p.1) ∧ W'.cell? ⟨g, off + k * 2 + 1, none⟩ = some (.int .u64 p.2)) := Lib.hid (fun W' k p h hp => by
    obtain ⟨g, off, hA, _, c0, c1⟩ := hP.at_ k p hp
    have hg := h g (hUg g off hA)
    exact ⟨g, off, hA, (World.cell?_of_block (a := ⟨g, off + k * 2, none⟩) hg).trans c0, (World.cell?_of_block (a := ⟨g, off + k * 2 + 1, none⟩) hg).trans c1⟩)
  have HY := Lib.hid hY
  have HK := Lib.hid hk
  have HJ0 : Hid (J ((bkL L).take 0) W) := Lib.hid h0
  have HLEN := Lib.hid (bkL_len L)
  have HAT := Lib.hid (bkL_at L)
  have b0 := HBX.out W hk
  obtain ⟨N, hN⟩ : ∃ N, L.length = N := ⟨_, rfl⟩
  have HN := Lib.hid hN
  rw [hN] at b0 hl
  have u1 : IntKind.i64.wrap ((N : Int) - 1) = (N : Int) - 1 := by rw [IntKind.wrap_i64]; omega
  clear hY hk h0 hP hbx hUb hUg hN
  refine callsIn_of_wp Try.func54 rfl trivial ?_ rfl
  simp only [Try.ntmps54, List.size_toArray, List.length_cons, List.length_nil, Nat.reduceAdd, Nat.reduceSub, Array.replicate_succ, Array.replicate_zero, List.push_toArray, List.append_toArray, List.nil_append, List.cons_append]
  gi_wp2
  gi_loopw [3] (fun j wr => ∃ k : Nat, k ≤ N ∧ j = .int .i64 ((N : Int) - 1 - k) ∧ J ((bkL L).take k) wr ∧ KeepB U w wr) (fun j _ => (intOf j + 1).toNat)
  case atStart => exact ⟨0, Nat.zero_le _, by simp, HJ0.out, HK.out⟩
  case round =>
    clear HJ0 HK b0 u1
    obtain ⟨k, hk, rfl, hJ1, hk1⟩ := hrel
    have HJ1 := Lib.hid hJ1
    have HK1 := Lib.hid hk1
    clear hJ1 hk1
    by_cases hlt : k < N
    · obtain ⟨q, hq⟩ : ∃ q : Nat, q + k + 1 = N := ⟨N - k - 1, by omega⟩
      have hql : q < L.length := by have := HN.out; omega
      have hxq : L[q]? = some L[q] := List.getElem?_eq_getElem hql
      have HNX := Lib.hid (take_snocP (HAT.out k q hql (by have := HN.out; omega)))
      have hjq : (N : Int) - 1 - k = (q : Int) := by omega
      rw [hjq]
      have hYY := HY.out ((bkL L).take k) ⟨q, hql⟩ wr HJ1.out (by rw [List.length_take, HLEN.out]; have := HN.out; omega)
      rw [← HNX.out] at hYY
      have he : encBk L ⟨q, hql⟩ = #[.int .i64 (q : Int), .agg #[.int .i64 (L[q]).1, .int .u64 (L[q]).2]] := rfl
      rw [he] at hYY
      obtain ⟨g, off, rfl, c0, c1⟩ := HC.out wr q _ HK1.out hxq
      have b1 := HBX.out wr HK1.out
      rw [HN.out] at b1
      have HYY := Lib.hid hYY
      have q1 : (q : Int) < (N : Int) := by omega
      have q2 : (0 : Int) ≤ (q : Int) := by omega
      have q3 : IntKind.i64.wrap ((q : Int) - 1) = (q : Int) - 1 := by rw [IntKind.wrap_i64]; omega
      have HQQ : Hid ((q : Int) - 1 = (N : Int) - 1 - ((k + 1 : Nat) : Int)) := Lib.hid (by omega)
      generalize hpx : (L[q]).1 = px at *
      generalize hpc : (L[q]).2 = pc at *
      clear hYY he hxq hpx hpc hq hjq
      obtain ⟨fn, tmps, assign, body, hy, hR⟩ := HYY.out
      gi_wp2
      refine hR.mono ?_
      rintro e W3 (⟨rfl, hJ3, hk3⟩ | ⟨rfl, hJx3⟩)
      · have HJ3 := Lib.hid hJ3
        have HK3 := Lib.hid (keepB_t HK1.out hk3)
        clear hJ3 hk3
        gi_wp2
        go_roundw
        case rel => exact ⟨k + 1, by omega, by rw [← HQQ.out], HJ3.out, HK3.out⟩
        case measure => (simp [intOf]; try omega)
      · gi_wp2
        refine bodyPost_ret (results_none rfl _ _ _) rfl ?_
        exact ⟨⟨_, rfl⟩, .inr ⟨_, trivial, hJx3⟩⟩
    · obtain rfl : k = N := by omega
      have HJL : Hid (J (bkL L) wr) := Lib.hid (by
        have := HJ1.out
        rwa [List.take_of_length_le (Nat.le_of_eq (by rw [HLEN.out, HN.out]))] at this)
      have q1 : (k : Int) - 1 - (k : Int) = -1 := by omega
      rw [q1]
      gi_wp2
      go_end0
      exact ⟨⟨_, rfl⟩, .inl ⟨_, rfl, HJL.out⟩⟩

set_option maxHeartbeats 400000 in
theorem call_back (A : Option Addr) (n cap : Nat) (w : World) :
    Calls Try.prog 43 #[.slice A n cap] w fun e w' => e = .returned (.func (.func 54) #[] #[.pointer (some ⟨w.heap.size, 0, none⟩)]) ∧ w' = w.alloc (.cells #[.slice A n cap] 22) := by
  go_enter Try.func43, Try.ntmps43
  go_wp2_with fail
  go_ret
  exact ⟨rfl, rfl⟩
theorem enters_back : ∀ args w, (callFunc 54 args).run Try.prog w = .ok (.enter 54 args) w :=
  enters_of Try.func54 (by kernel_rfl) rfl
/-- The blocks that it reads. -/
def backU (w : World) (A : Option Addr) (k : Nat) : Prop := k = w.heap.size ∨ ∃ off, A = some ⟨k, off, none⟩
theorem back_stops (n : Nat) (hn : 1 ≤ n) (w : World) (A : Option Addr) (cap : Nat) (L : List PairV) (hP : Pairs w A L) (hl : L.length ≤ 100000) (hA : ∀ g off, A = some ⟨g, off, none⟩ → g < w.heap.size) :
    SeqStopsK Fence.wide n Try.prog 54 #[.pointer (some ⟨w.heap.size, 0, none⟩)] (encBk L) (KeepB (backU w A)) (fun ys => ys = bkL L) (fun _ => True) L.length (w.alloc (.cells #[.slice A L.length cap] 22)) := by
  intro l J Jx W hW _ _ hY h0
  have hb : Below w.heap.size w (w.alloc (.cells #[.slice A L.length cap] 22)) := (Below.refl _ _).alloc (Nat.le_refl _) _
  refine back_in n hn l w.heap.size A cap (backU w A) (w.alloc (.cells #[.slice A L.length cap] 22)) (Or.inl rfl) (fun g off h => Or.inr ⟨off, h⟩) (hP.call hb) hl ?_ J Jx hY W (fun k hk => hW.block k ?_) h0
  · have h : (w.alloc (.cells #[.slice A L.length cap] 22)).heap[w.heap.size]? = some (.cells #[.slice A L.length cap] 22 (0, 0)) := heap_alloc_new _ _
    rw [Joins.cell_of_block h]; rfl
  · rw [World.size_alloc]
    rcases hk with rfl | ⟨off, h⟩
    · omega
    · have := hA _ _ h; omega
end Go.Proofs.Ytjgaieicljnhkaa

/-
  Walks: package lowcap: Merge.
-/
namespace Go.Proofs.Ytjgaieicljnhkaa
set_option linter.unusedVariables false
set_option linter.unusedSimpArgs false
open Go.RowKit Go.Shelf
attribute [local go_sem] Oper.semAt_some

set_option maxHeartbeats 1000000 in
theorem lmerge_nil (w : World) :
    Calls Try.prog 29 #[.pointer none, .pointer none] w fun e w' => e = .returned (.int .i64 2) ∧ Below w.heap.size w w' := by
  have hb : Below w.heap.size w (w.alloc (.cells #[.pointer none] 25)) := (Below.refl _ _).alloc (Nat.le_refl _) _
  go_enter Try.func29, Try.ntmps29
  go_wp2_with fail
  go_ret
  exact ⟨rfl, hb⟩
set_option maxHeartbeats 1000000 in
theorem lmerge_none (w : World) (B : Nat) :
    Calls Try.prog 29 #[.pointer (some ⟨B, 0, none⟩), .pointer none] w fun e w' => e = .returned (.int .i64 2) ∧ Below w.heap.size w w' := by
  have hb : Below w.heap.size w (w.alloc (.cells #[.pointer (some ⟨B, 0, none⟩)] 25)) := (Below.refl _ _).alloc (Nat.le_refl _) _
  go_enter Try.func29, Try.ntmps29
  go_wp2_with fail
  go_ret
  exact ⟨rfl, hb⟩
set_option maxHeartbeats 1000000 in
theorem lmerge_other (w : World) (B B' : Nat) (m m' : Int) (h : w.cell? ⟨B, 0, none⟩ = some (.int .i64 m)) (h' : w.cell? ⟨B', 0, none⟩ = some (.int .i64 m')) (hm : m ≠ m') :
    Calls Try.prog 29 #[.pointer (some ⟨B, 0, none⟩), .pointer (some ⟨B', 0, none⟩)] w fun e w' => e = .returned (.int .i64 8) ∧ Below w.heap.size w w' := by
  obtain ⟨X, hX, hb, hz, hx⟩ := ptr_box w (.pointer (some ⟨B, 0, none⟩)) 25
  have x0 := one_cell hx
  have g0 := cell_later hb h
  have g1 := cell_later hb h'
  have hm2 : (m == m') = false := by simp [hm]
  have HB := Lib.hid hb
  clear h h' hb hz hx hm
  go_enter Try.func29, Try.ntmps29
  go_wp2_with fail
  go_quiet (fail)
  go_wp2_with fail
  go_ret
  exact ⟨rfl, below_drewN HB.out _⟩

/-- What a call leaves alone that keeps to blocks of cells. -/
theorem keeps_others {S : Nat → Prop} {w w' : World} (h : Keeps S w w') (hc : ∀ k, S k → k < w.heap.size → ∃ cs t z, w.heap[k]? = some (.cells cs t z)) : KeepsOthers w w' := by
  refine ⟨h.size, fun k o hk ho => ?_⟩
  obtain ⟨hlt, _⟩ := Array.getElem?_eq_some_iff.1 hk
  refine (h.block k hlt (fun hs => ?_)).trans hk
  obtain ⟨cs, t, z, he⟩ := hc k hs hlt
  rw [hk] at he
  cases he
  cases ho

/-- The pairs in the order in which they come. -/
def prs (L : List PairV) (pre : List (Fin L.length)) : List PairV := pre.map fun k => L[k.1]
theorem prs_snoc (L : List PairV) (pre : List (Fin L.length)) (x : Fin L.length) : prs L (pre ++ [x]) = prs L pre ++ [L[x.1]] := by unfold prs; rw [List.map_append]; rfl
theorem prs_all (L : List PairV) : prs L (bkL L) = L.reverse := by
  unfold prs bkL
  rw [List.map_reverse]
  congr 1
  apply List.ext_getElem
  · simp
  · intro i h1 h2
    simp
theorem prs_part {L : List PairV} {pre : List (Fin L.length)} (h : pre <+: bkL L) (hp : ∀ p, p ∈ L → 0 ≤ p.2) : sumP (prs L pre) ≤ sumP L := by
  obtain ⟨r, hr⟩ := h
  have e := prs_all L
  rw [← hr] at e
  unfold prs at e
  rw [List.map_append] at e
  have h1 := sumP_app (prs L pre) (prs L r)
  have h2 : sumP (prs L pre ++ prs L r) = sumP L := by
    have : prs L pre ++ prs L r = L.reverse := e
    rw [this, sumP_rev]
  have h3 : 0 ≤ sumP (prs L r) := sumP_pos fun p hq => by
    obtain ⟨k, _, rfl⟩ := List.mem_map.1 hq
    exact hp _ (List.getElem_mem _)
  omega
theorem prs_each {L : List PairV} (hg : GoodP L) (ho : ∀ p, p ∈ L → okP p) (pre : List (Fin L.length)) : ∀ p, p ∈ prs L pre → okP p ∧ 0 < p.2 := fun p hq => by
  obtain ⟨k, _, rfl⟩ := List.mem_map.1 hq
  exact good_each hg ho _ (List.getElem_mem _)
/-- How a merging stands. -/
def MI (St : World → Nat → (Nat → Prop) → Int → List PairV → Prop) (w : World) (n0 B : Nat) (S : Nat → Prop) (m : Int) (K K' : List PairV) (ls : Int) (pre : List (Fin K'.length)) (W : World) : Prop :=
  ∃ S1 K1 l1, LowRaw St W B S1 m K1 l1 ∧ Word l1 ∧ K1.length ≤ K.length + pre.length ∧ (∀ j, S1 j → S j ∨ n0 ≤ j) ∧ W.cell? ⟨w.heap.size, 0, none⟩ = some (.pointer (some ⟨B, 0, none⟩)) ∧ Keeps S w W ∧ n0 ≤ W.heap.size ∧
    (pre <+: bkL K' → K1 = keepP m (joinP K (prs K' pre)) ∧ l1 = ls + sumP K + sumP (prs K' pre) - sumP K1)
theorem keeps_grown9 {S : Nat → Prop} {w W W' : World} {row : Option Nat} (h : Keeps S w W) (hg : W.grownBy W' row) (hr : ∀ r, row = some r → w.heap.size ≤ r) : Keeps S w W' :=
  ⟨hg.os.trans h.os, hg.tape.trans h.tape, hg.output.trans h.output, Nat.le_trans h.size hg.size, fun k hk hn => (hg.block k (Nat.lt_of_lt_of_le hk h.size) (fun e => by have := hr k e.symm; omega)).trans (h.block k hk hn)⟩
theorem raw_grown {St : World → Nat → (Nat → Prop) → Int → List PairV → Prop} (D : StripDoes St) {W W' : World} {B : Nat} {S : Nat → Prop} {m l : Int} {K : List PairV} {row : Option Nat} (h : LowRaw St W B S m K l) (hg : W.grownBy W' row) (hr : ∀ r, row = some r → ∃ o : Obj, W.heap[r]? = some o ∧ o.isCells = false) : LowRaw St W' B S m K l := by
  refine raw_keep D h fun k hk => hg.block k (raw_lt D h k hk) (fun e => ?_)
  obtain ⟨cs, t, z, he⟩ := raw_cells D h k hk
  obtain ⟨o, ho, hc⟩ := hr k e.symm
  rw [he] at ho
  cases ho
  cases hc
theorem mi_own {St : World → Nat → (Nat → Prop) → Int → List PairV → Prop} (D : StripDoes St) (w : World) (n0 B : Nat) (S : Nat → Prop) (m : Int) (K K' : List PairV) (ls : Int) (h0 : w.heap.size ≤ n0) : OwnFrom n0 (MI St w n0 B S m K K' ls) := by
  intro pre W W' row hs hg hr
  obtain ⟨S1, K1, l1, h1, h2, h3, h4, h5, h6, h7, h8⟩ := hs
  exact ⟨S1, K1, l1, raw_grown D h1 hg (fun r e => (hr r e).2), h2, h3, h4, cell_kept h5 hg (fun r e => (hr r e).2), keeps_grown9 h6 hg (fun r e => Nat.le_trans h0 (hr r e).1), Nat.le_trans h7 hg.size, h8⟩
theorem mi_alloc {St : World → Nat → (Nat → Prop) → Int → List PairV → Prop} (D : StripDoes St) {w : World} {n0 B : Nat} {S : Nat → Prop} {m : Int} {K K' : List PairV} {ls : Int} {pre : List (Fin K'.length)} {W : World} (h : MI St w n0 B S m K K' ls pre W) (h0 : w.heap.size ≤ n0) (o : Obj) : MI St w n0 B S m K K' ls pre (W.alloc o) :=
  mi_own D w n0 B S m K K' ls h0 pre W _ none h (World.grownBy_alloc W o none) (fun r e => by cases e)
/-- A round of it. -/
theorem mi_step {St : World → Nat → (Nat → Prop) → Int → List PairV → Prop} {w : World} {n0 B : Nat} {S : Nat → Prop} {m : Int} {K K' : List PairV} {ls T T' : Int} {pre : List (Fin K'.length)} {x : Fin K'.length} {W W' : World} {S1 : Nat → Prop} {K1 : List PairV} {l1 : Int}
    (hp : Lwp m K T) (hp' : Lwp m K' T') (hls : ls = (T - sumP K) + (T' - sumP K')) (hs : T + T' ≤ 9223372036854775807) (h3 : K1.length ≤ K.length + pre.length) (h4 : ∀ j, S1 j → S j ∨ n0 ≤ j) (h5 : W.cell? ⟨w.heap.size, 0, none⟩ = some (.pointer (some ⟨B, 0, none⟩))) (h6 : Keeps S w W) (h7 : n0 ≤ W.heap.size)
    (h8 : pre <+: bkL K' → K1 = keepP m (joinP K (prs K' pre)) ∧ l1 = ls + sumP K + sumP (prs K' pre) - sumP K1) (hn0 : w.heap.size < n0) (hS : ∀ j, S j → j < w.heap.size)
    (hput : PutW St W B S1 m K1 l1 (K'[x.1]).1 (K'[x.1]).2 W') : MI St w n0 B S m K K' ls (pre ++ [x]) W' := by
  obtain ⟨S2, K2, l2, hr, hk, hS2, hw, hlen, hcase⟩ := hput
  have hS3 : ∀ j, S2 j → S j ∨ n0 ≤ j := fun j hj => by
    rcases hS2 j hj with h | h
    · exact h4 j h
    · exact Or.inr (by omega)
  refine ⟨S2, K2, l2, hr, hw, by rw [List.length_append, List.length_singleton]; omega, hS3, hk.cell (fun h => ?_) h5, h6.trans hk (fun j hj => ?_), Nat.le_trans h7 hk.size, fun hpre => ?_⟩
  · rcases h4 _ h with h | h
    · have := hS _ h; omega
    · omega
  · rcases h4 j hj with h | h
    · exact Or.inl h
    · exact Or.inr (by omega)
  · have hpre0 : pre <+: bkL K' := List.IsPrefix.trans (List.prefix_append _ _) hpre
    obtain ⟨e1, e2⟩ := h8 hpre0
    have hm : 0 < m := by have := hp.m1; omega
    have hx := good_each hp'.good hp'.ok _ (List.getElem_mem x.2)
    have hpart := prs_part hpre (ok_pos hp'.ok)
    rw [prs_snoc, sumP_app, sumP_one] at hpart
    have hpart0 := prs_part hpre0 (ok_pos hp'.ok)
    have hq := hp.sum
    have hq' := hp'.sum
    have J := join_facts (prs K' pre) K hp.good hp.ok (prs_each hp'.good hp'.ok pre) (by omega)
    have hks := keep_sum m (ok_pos J.ok)
    have hJs := J.sum
    have hcn := count_le_sum (K'[x.1]).1 (ok_pos J.ok)
    rw [← e1] at hks
    obtain ⟨f1, f2⟩ := put_eq hcase (by rw [e1]; exact keep_good J.good) (by rw [e1]; exact keep_ok J.ok) (by rw [e1]; exact keep_idem hm J.good) hx.1.1 hx.2 hp.m1 (by omega) (by omega)
    have f3 : keepP m (addP K1 (K'[x.1]).1 (K'[x.1]).2) = keepP m (joinP K (prs K' (pre ++ [x]))) := by
      rw [prs_snoc, join_snoc, e1]
      exact keep_add hm J.good (by omega) hx.2
    refine ⟨f1.trans f3, ?_⟩
    rw [f2, f1, prs_snoc, sumP_app, sumP_one]
    omega
theorem putObj_keeps {S : Nat → Prop} {w W : World} (h : Keeps S w W) {D : Nat} (o : Obj) (hD : w.heap.size ≤ D) : Keeps S w (W.putObj D o) :=
  keeps_grown9 h (grownBy_putObj' W D o) (fun r e => by cases e; exact hD)
/-- What comes of it. -/
theorem mi_done {St : World → Nat → (Nat → Prop) → Int → List PairV → Prop} {w : World} {n0 B : Nat} {S : Nat → Prop} {m : Int} {K K' : List PairV} {ls T T' : Int} {W : World} (hp : Lwp m K T) (hp' : Lwp m K' T') (hls : ls = (T - sumP K) + (T' - sumP K')) (hs : T + T' ≤ 9223372036854775807) (hn0 : w.heap.size ≤ n0)
    (h : MI St w n0 B S m K K' ls (bkL K') W) : ∃ S2, LowRaw St W B S2 m (keepP m (joinP K K')) (T + T' - sumP (keepP m (joinP K K'))) ∧ Keeps S w W ∧ (∀ k, S2 k → S k ∨ w.heap.size ≤ k) := by
  obtain ⟨S1, K1, l1, h1, h2, h3, h4, h5, h6, h7, h8⟩ := h
  obtain ⟨e1, e2⟩ := h8 (List.prefix_refl _)
  have hq := hp.sum
  have hq' := hp'.sum
  rw [prs_all, join_rev hp.good hp.ok (good_each hp'.good hp'.ok) (by omega)] at e1
  rw [prs_all, sumP_rev] at e2
  refine ⟨S1, ?_, h6, fun k hk => ?_⟩
  · rw [← e1]
    rwa [show T + T' - sumP K1 = l1 by omega]
  · rcases h4 k hk with h | h
    · exact Or.inl h
    · exact Or.inr (by omega)

set_option maxRecDepth 1000000 in
set_option maxHeartbeats 4000000 in
theorem lmerge_in {St : World → Nat → (Nat → Prop) → Int → List PairV → Prop} (D : StripDoes St) (w : World) (B : Nat) (S : Nat → Prop) (m : Int) (K : List PairV) (T : Int) (B' : Nat) (S' : Nat → Prop) (K' : List PairV) (T' : Int) (h : LowX St w B S m K T) (h' : LowX St w B' S' m K' T') (hd : B' = B ∨ ∀ k, S k → ¬ S' k) (hl : K.length ≤ 300) (hl' : K'.length ≤ 300) (hs : T + T' ≤ 9223372036854775807) :
    CallsIn Fence.wide 8 Try.prog 29 #[.pointer (some ⟨B, 0, none⟩), .pointer (some ⟨B', 0, none⟩)] w fun e w' => e = .returned (.int .i64 0) ∧ ∃ S2, LowRaw St w' B S2 m (keepP m (joinP K K')) (T + T' - sumP (keepP m (joinP K K'))) ∧ Keeps S w w' ∧ (∀ k, S2 k → S k ∨ w.heap.size ≤ k) := by
  have HD := Lib.hid D
  have HX := Lib.hid h
  have HX' := Lib.hid h'
  obtain ⟨hp, C, S0, hb, hst, hn, hS⟩ := id h
  obtain ⟨hp', C', S0', hb', hst', hn', hS'⟩ := id h'
  obtain ⟨c0, c1, c2⟩ := three_cells hb
  obtain ⟨c0', c1', c2'⟩ := three_cells hb'
  obtain ⟨X, hX, bX, zX, hx⟩ := ptr_box w (.pointer (some ⟨B, 0, none⟩)) 25
  have HP := Lib.hid hp
  have HP' := Lib.hid hp'
  have tt := hp.top
  have tt' := hp'.top
  have t0 : 0 ≤ T := by have := hp.pos; have := hp.sum; omega
  have t0' : 0 ≤ T' := by have := hp'.pos; have := hp'.sum; omega
  have HT : Hid (∀ w', Below w.heap.size w w' → Calls Try.prog 18 #[.pointer (some ⟨B, 0, none⟩)] w' fun e w'' => e = .returned (.int .u64 T) ∧ Below w'.heap.size w' w'') := Lib.hid (fun w' hw => ltotal_raw D ⟨h.1, raw_call D h.2 hw⟩ (by omega))
  have HT' : Hid (∀ w', Below w.heap.size w w' → Calls Try.prog 18 #[.pointer (some ⟨B', 0, none⟩)] w' fun e w'' => e = .returned (.int .u64 T') ∧ Below w'.heap.size w' w'') := Lib.hid (fun w' hw => ltotal_raw D ⟨h'.1, raw_call D h'.2 hw⟩ (by omega))
  have x0 := one_cell hx
  have g0 := cell_later bX c0
  have g0' := cell_later bX c0'
  obtain ⟨l, hll⟩ : ∃ l, T - sumP K = l := ⟨_, rfl⟩
  obtain ⟨l', hll'⟩ : ∃ l', T' - sumP K' = l' := ⟨_, rfl⟩
  rw [hll] at c2
  rw [hll'] at c2'
  have hl0 : 0 ≤ l := by have := hp.sum; omega
  have hl0' : 0 ≤ l' := by have := hp'.sum; omega
  have hl1 : l + l' ≤ 9223372036854775807 := by have := hp.pos; have := hp'.pos; omega
  have u1 : IntKind.u64.wrap (l + l') = l + l' := by rw [IntKind.wrap_u64]; omega
  obtain ⟨pb, pq⟩ := plus2_yes (x := T) (y := T') hs
  have PB := Lib.hid pb
  have PQ := Lib.hid pq
  have HBX := Lib.hid bX
  have HZX := Lib.hid zX
  have HXB := Lib.hid hx
  have HLL := Lib.hid hll
  have HLL' := Lib.hid hll'
  have HB := Lib.hid hb
  have HB' := Lib.hid hb'
  have HDJ := Lib.hid hd
  have HL := Lib.hid hl
  have HL' := Lib.hid hl'
  have HSM := Lib.hid hs
  clear D h h' hp hp' hb hb' hst hst' hn hn' hS hS' bX hx hll hll' pb pq hd hl hl' zX
  refine callsIn_of_wp_marks Try.func29 rfl trivial ?_ rfl
  refine wpIn_wide.2 ?_
  simp only [Try.ntmps29, List.size_toArray, List.length_cons, List.length_nil, Nat.reduceAdd, Nat.reduceSub, Array.replicate_succ, Array.replicate_zero, List.push_toArray, List.append_toArray, List.nil_append, List.cons_append]
  go_wp2_with fail
  go_quiet (fail)
  have b1 := below_drewN HBX.out nq
  have HB1 := Lib.hid b1
  clear hX g0 g0' c0 c0'
  go_wp2_with fail
  refine (HT.out _ HB1.out).mono ?_
  rintro e w2 ⟨rfl, b2⟩
  have hb2 := HB1.out.trans (b2.mono HB1.out.size)
  have HB2 := Lib.hid hb2
  clear hb2
  go_wp2_with fail
  refine (HT'.out _ HB2.out).mono ?_
  rintro e w3 ⟨rfl, b3⟩
  have hb3 := HB2.out.trans (b3.mono HB2.out.size)
  have hbx3 : Below X.heap.size X w3 := (below_drewN (Below.refl _ _) nq).trans ((b2.mono (below_drewN (Below.refl X.heap.size X) nq).size).trans (b3.mono (Nat.le_trans (below_drewN (Below.refl X.heap.size X) nq).size b2.size)))
  have HB3 := Lib.hid hb3
  have HX3 := Lib.hid hbx3
  clear hb3 hbx3 b2 b3 b1
  go_wp2_with fail
  refine (plus_two T T' (T + T') true _ _ _ ⟨by omega, by omega⟩ ⟨by omega, by omega⟩ (two_words w3 _ _ _).1 (two_words w3 _ _ _).2 PQ.out PB.out).mono ?_
  rintro e w4 ⟨rfl, rfl⟩
  obtain ⟨Y, hY⟩ : ∃ Y, w3.alloc (.cells #[.int .u64 T, .int .u64 T'] 32) = Y := ⟨_, rfl⟩
  rw [hY]
  have bY : Below w.heap.size w Y := by rw [← hY]; exact HB3.out.alloc HB3.out.size _
  have bxY : Below X.heap.size X Y := by rw [← hY]; exact HX3.out.alloc HX3.out.size _
  have y0 := cell_later bxY x0
  have y2 := cell_later bY c2
  have y2' := cell_later bY c2'
  have yf : Y.frozen? ⟨B, 2, none⟩ = false := free8 ((bY.block B (lt_of_block HB.out)).trans HB.out) 2
  have HBY := Lib.hid bY
  have HXY := Lib.hid bxY
  clear hY bY bxY c1 c1' c2 c2' x0
  go_wp2_with fail
  go_region
  obtain ⟨Z, hZ⟩ : ∃ Z, (Y.setCell ⟨B, 2, none⟩ (.int .u64 (l + l'))).drew = Z := ⟨_, rfl⟩
  rw [hZ]
  have hBw := lt_of_block HB.out
  have hSlt : ∀ k, S k → k < w.heap.size := raw_lt HD.out HX.out.2
  have zYZ : Z.heap.size = Y.heap.size := by rw [← hZ]; simp [World.drew, World.setCell]
  have zYX := HXY.out.size
  have zXw := HZX.out
  have kZ : Keeps S w Z := by
    rw [← hZ]
    exact ((Keeps.of_below HBY.out).set 2 _ (Or.inl (raw_B HX.out.2))).trans (Keeps.of_below (S := S) ((Below.refl _ _).drew)) (fun j hj => Or.inl hj)
  have hdr : Below (Y.setCell ⟨B, 2, none⟩ (.int .u64 (l + l'))).heap.size (Y.setCell ⟨B, 2, none⟩ (.int .u64 (l + l'))) Z := by rw [← hZ]; exact (Below.refl _ _).drew
  have rZ : LowRaw St Z B S m K (l + l') := raw_call HD.out (raw_lost HD.out (raw_call HD.out HX.out.2 HBY.out) (l + l')) hdr
  have rZ' : ∃ lx, LowRaw St Z B' S' m K' lx := by
    have h1 := raw_call HD.out HX'.out.2 HBY.out
    rcases HDJ.out with e | hdis
    · have h2 := raw_lost HD.out h1 (l + l')
      rw [e] at h2 ⊢
      exact ⟨_, raw_call HD.out h2 hdr⟩
    · exact ⟨_, raw_call HD.out (raw_keep HD.out h1 (fun k hk => Below.heap_setCell _ _ _ _ (by show k ≠ B; rintro rfl; exact hdis k (raw_B HX.out.2) hk))) hdr⟩
  have z0 : Z.cell? ⟨w.heap.size, 0, none⟩ = some (.pointer (some ⟨B, 0, none⟩)) := by
    refine cell_later hdr ?_
    rw [World.cell?_setCell_other _ _ _ _ (two_far (by omega))]
    exact y0
  have HPR : Hid (Calls Try.prog 15 #[.pointer (some ⟨B', 0, none⟩)] Z fun e w' => ∃ v, e = .returned v ∧ OwnP w' Z.heap.size v K' ∧ Below Z.heap.size Z w') := Lib.hid (by
    obtain ⟨lx, Cx, Sx, hbx, hstx, hnx, hSx⟩ := rZ'
    refine lpairs_of Z _ _ _ (ownsl_at (three_cells hbx).2.1) (fun e w' h => ?_) (HD.out.pairs _ _ _ _ _ hstx (by have := HL'.out; omega))
    obtain ⟨v, rfl, ho, _⟩ := h
    obtain ⟨A, cap, rfl⟩ := ho.form
    exact ⟨A, _, cap, rfl⟩)
  have HRZ := Lib.hid rZ
  have HKZ := Lib.hid kZ
  have HSLT := Lib.hid hSlt
  clear hZ rZ rZ' kZ hdr hSlt y0 y2 y2' yf u1
  go_wp2_with fail
  refine HPR.out.mono ?_
  rintro e w6 ⟨v6, rfl, ho6, b6⟩
  have hlt6 := ho6.lt
  obtain ⟨A6, cap6, rfl, hP6⟩ := ho6.pairs HP'.out.ok
  have z6 := b6.size
  have a0 := cell_later b6 z0
  have HP6 := Lib.hid hP6
  have HR6 := Lib.hid (raw_call HD.out HRZ.out b6)
  have HK6 : Hid (Keeps S w w6) := Lib.hid (HKZ.out.trans (Keeps.of_below (S := S) b6) (fun j hj => Or.inl hj))
  have HA6 : Hid (∀ g off, A6 = some ⟨g, off, none⟩ → Z.heap.size ≤ g ∧ g < w6.heap.size) := Lib.hid (fun g off e => by subst e; exact hlt6 g rfl)
  clear hP6 ho6 b6 hlt6 z0
  go_wp2_with fail
  refine (call_back A6 K'.length cap6 w6).mono ?_
  rintro e W0 ⟨rfl, hW0⟩
  have b7 : Below w6.heap.size w6 W0 := by rw [hW0]; exact (Below.refl _ _).alloc (Nat.le_refl _) _
  have z7 : W0.heap.size = w6.heap.size + 1 := by rw [hW0]; simp
  have a7 := cell_later b7 a0
  have HSQ : Hid (SeqStopsK Fence.wide 7 Try.prog 54 #[.pointer (some ⟨w6.heap.size, 0, none⟩)] (encBk K') (KeepB (backU w6 A6)) (fun ys => ys = bkL K') (fun _ => True) K'.length W0) := Lib.hid (by
    rw [hW0]
    exact back_stops 7 (by omega) w6 A6 cap6 K' HP6.out (by have := HL'.out; omega) (fun g off e => (HA6.out g off e).2))
  have HU : Hid (∀ k, backU w6 A6 k → k < W0.heap.size ∧ Z.heap.size ≤ k) := Lib.hid (fun k hk => by
    rcases hk with rfl | ⟨off, e⟩
    · omega
    · have := HA6.out k off e; omega)
  have HM0 : Hid (MI St w W0.heap.size B S m K K' (l + l') [] W0) := Lib.hid (by
    refine ⟨S, K, l + l', raw_call HD.out HR6.out b7, ⟨by omega, by omega⟩, by simp, fun j hj => Or.inl hj, a7, HK6.out.trans (Keeps.of_below (S := S) b7) (fun j hj => Or.inl hj), Nat.le_refl _, fun _ => ⟨?_, ?_⟩⟩
    · show K = keepP m (joinP K [])
      rw [join_nil, HP.out.kept]
    · show l + l' = l + l' + sumP K + sumP [] - sumP K
      rw [sumP_nil]; omega)
  have HLS : Hid (l + l' = (T - sumP K) + (T' - sumP K')) := Lib.hid (by rw [HLL.out, HLL'.out])
  have hwn : w.heap.size < W0.heap.size := by omega
  clear a0 a7 b7 hW0
  go_wp2_with fail
  refine (wpIn_wide (n := 8)).1 ?_
  refine wpIn_rangeFunc_ownH rfl (by omega) (gf := 54) (lb := #[.pointer (some ⟨w6.heap.size, 0, none⟩)]) rfl trivial enters_back HSQ.out keepB_t (keepB_b (fun k hk => (HU.out k hk).1)) (Below.refl _ _) (fun _ => rfl)
    (MI St w W0.heap.size B S m K K' (l + l')) (fun _ _ _ => False) (mi_own HD.out w W0.heap.size B S m K K' (l + l') (by omega)) (fun c _ _ _ _ h _ _ => h) HM0.out
    (fun x a' W => ∃ Bx, W0.heap.size ≤ Bx ∧ Two W Bx (.int .i64 (K'[x.1]).1) (.int .u64 (K'[x.1]).2) ∧ a' = { tmps := #[.pointer (some ⟨B, 0, none⟩), .pointer (some ⟨B', 0, none⟩), .pointer (some ⟨w.heap.size, 0, none⟩), undef, .int .i64 0, .int .u64 (T + T'), .bool true, undef, .pointer (some ⟨Bx, 0, none⟩), .pointer (some ⟨B, 0, none⟩), .bool false, .bool false, .pointer (some ⟨B', 0, none⟩), .bool false, .bool false, .pointer (some ⟨B, 0, none⟩), .pointer (some ⟨B, 0, none⟩), .pointer (some ⟨B, 0, none⟩), .int .i64 m, .pointer (some ⟨B', 0, none⟩), .pointer (some ⟨B', 0, none⟩), .pointer (some ⟨B', 0, none⟩), .int .i64 m, .bool false, .tuple #[.int .u64 (T + T'), .bool true], .pointer (some ⟨B, 0, none⟩), .int .u64 T, .pointer (some ⟨B', 0, none⟩), .int .u64 T', .slice (some ⟨w3.heap.size, 0, none⟩) 2 2, .tuple #[.int .u64 (T + T'), .bool true], .int .u64 (T + T'), .bool true, .bool true, .bool false, .pointer (some ⟨B, 0, none⟩), .pointer (some ⟨B, 0, none⟩), .pointer (some ⟨B, 2, none⟩), .int .u64 l, .pointer (some ⟨B', 0, none⟩), .pointer (some ⟨B', 0, none⟩), .pointer (some ⟨B', 2, none⟩), .int .u64 l', .int .u64 (l + l'), .pointer (some ⟨B, 0, none⟩), .pointer (some ⟨B, 2, none⟩), .pointer (some ⟨B', 0, none⟩), .slice A6 K'.length cap6, .func (.func 54) #[] #[.pointer (some ⟨w6.heap.size, 0, none⟩)], .int .i64 (x.1 : Int), .agg #[.int .i64 (K'[x.1]).1, .int .u64 (K'[x.1]).2], undef, undef, undef, undef, undef, undef], defers := [] })
    (fun x a' _ X Y row hs hg hr => by
      obtain ⟨Bx, hBx, h, e⟩ := hs
      have hr' := fun r e => (hr r e).2
      exact ⟨Bx, hBx, ⟨cell_kept h.c0 hg hr', cell_kept h.c1 hg hr', (frozen_kept h.c0 hg hr').trans h.f0, (frozen_kept h.c1 hg hr').trans h.f1⟩, e⟩)
    ?assign ?body ?done ?stop
  case assign =>
    rintro l9 pre x W K9 hI hK
    have HI := Lib.hid hI
    obtain ⟨_, _, _, _, _, _, _, _, _, hsz, _⟩ := hI
    have HSZ := Lib.hid hsz
    clear hsz
    simp only [encBk]
    gi_wp2
    exact hK _ _ ((KeepsOthers.alloc _ _).from _) (fun k hk => heap_alloc_old _ _ (by have := (HU.out k hk).1; have := HSZ.out; omega)) (mi_alloc HD.out HI.out (by omega) _) ⟨W.heap.size, HSZ.out, Two.new W _ _ _, rfl⟩
  case body =>
    rintro l9 pre x a' W hl9 _ hI ⟨Bx, hBx, hT, rfl⟩ hlt
    obtain ⟨S1, K1, l1, h1, h2, h3, h4, h5, h6, h7, h8⟩ := hI
    have hxo := HP'.out.ok _ (List.getElem_mem x.2)
    have hpx : pre.length < K'.length := hlt
    obtain ⟨xi, hxi⟩ : ∃ xi, (K'[x.1]).1 = xi := ⟨_, rfl⟩
    obtain ⟨xc, hxc⟩ : ∃ xc, (K'[x.1]).2 = xc := ⟨_, rfl⟩
    have HXI := Lib.hid hxi
    have HXC := Lib.hid hxc
    obtain ⟨y0, y1, y2, y3⟩ := hT
    unfold okP at hxo
    rw [hxi, hxc] at hxo
    rw [hxi] at y0
    rw [hxc] at y1
    rw [hxi, hxc]
    have HPUT := Lib.hid (lputw_any HD.out W B S1 m K1 l1 xi xc h1 (by have := HL.out; have := HL'.out; omega) hxo.1 hxo.2 HP.out.m1 HP.out.m2 h2)
    have H1 := Lib.hid h1
    have H3 := Lib.hid h3
    have H4 := Lib.hid h4
    have H5 := Lib.hid h5
    have H6 := Lib.hid h6
    have H7 := Lib.hid h7
    have H8 := Lib.hid h8
    clear h1 h2 h3 h4 h6 h7 h8 hxi hxc hxo hlt hpx
    gi_wp2_with (refine ⟨trivial, ?_⟩; gi_at_call 34; refine (CallsIn.inRound l9 (callsIn_wide.2 HPUT.out)).mono ?_; rintro e W3 ⟨rfl, hput⟩; clear HPUT)
    have hkp : Keeps S1 W W3 := by
      obtain ⟨_, _, _, _, hk, _⟩ := hput
      exact hk
    refine ⟨(keeps_others hkp (fun k hk _ => raw_cells HD.out H1.out k hk)).from _, fun k hk => hkp.block k (by have := (HU.out k hk).1; have := H7.out; omega) (fun h => ?_), ?_⟩
    · have hu := HU.out k hk
      rcases H4.out k h with h | h
      · have := HSLT.out k h; omega
      · omega
    · exact mi_step HP.out HP'.out HLS.out HSM.out H3.out H4.out H5.out H6.out H7.out H8.out (by omega) HSLT.out (by rw [HXI.out, HXC.out]; exact hput)
  case done =>
    rintro D9 ys W hD rfl hI hK
    have hfin := mi_done HP.out HP'.out HLS.out HSM.out (by omega) hI
    obtain ⟨S2, hr2, hk2, hs2⟩ := hfin
    have HR2 := Lib.hid hr2
    have HK2 := Lib.hid hk2
    have HS2 := Lib.hid hs2
    have HKD := Lib.hid hK
    clear hI hr2 hk2 hs2 hK
    go_wp2_with fail
    refine ⟨by simp, .inl ⟨_, _, rfl, run_takeDeferred HKD.out, ?_⟩⟩
    refine ⟨.int .i64 0, ?_, rfl, S2, raw_grown HD.out HR2.out (grownBy_putObj' W D9 _) (fun r e => by cases e; exact ⟨_, HKD.out, rfl⟩), putObj_keeps HK2.out _ (by omega), HS2.out⟩
    simp [results, Try.f29, go_sem]
  case stop =>
    rintro D9 c9 pre W hD hpre hF
    exact hF.elim
end Go.Proofs.Ytjgaieicljnhkaa

/-
  Walks: package strip: Pairs, Find, Below, of a strip and of a nil one.
  Walks: package strip: First, Last, of a strip and of a nil one.
  What the landed code of package strip does, a nil strip's too.
-/
namespace Go.Proofs.Ytjgaieicljnhkaa
set_option linter.unusedVariables false
set_option linter.unusedSimpArgs false
open Go.RowKit

set_option maxRecDepth 100000 in
set_option maxHeartbeats 1000000 in
theorem clone_none (w : World) :
    Calls Try.prog 48 #[.slice none 0 0] w fun e w' => e = .returned (.slice none 0 0) ∧ w = w' := by
  have he : ∀ w : World, (binOp .eql 22 (.slice none 0 0) (.slice none 0 0)).run Try.prog w = .ok (.bool true) w := fun _ => rfl
  go_enter Try.func48, Try.ntmps48
  go_wp2_with fail
  go_ret
  exact ⟨rfl, rfl⟩

set_option maxRecDepth 100000 in
set_option maxHeartbeats 1000000 in
theorem clone_some (w : World) (g off n cap : Nat) (L : List PairV) (h : Pairs w (some ⟨g, off, none⟩) L) (hn : n = L.length) (hl : n ≤ 1000) :
    Calls Try.prog 48 #[.slice (some ⟨g, off, none⟩) n cap] w fun e w' => ∃ v, e = .returned v ∧ OwnP w' w.heap.size v L ∧ Below w.heap.size w w' := by
  subst hn
  have hO := World.ownsRow_made (base := w.heap.size) (e := 34) (size := 2) w #[] 0 (by simp) (by decide) rfl
  have HO : Hid (OwnP (w.alloc (.cells #[] 34)) w.heap.size (.slice (some ⟨w.heap.size, 0, none⟩) 0 0) []) := Lib.hid hO
  have HB : Hid (Below w.heap.size w (w.alloc (.cells #[] 34))) := Lib.hid ((Below.refl _ _).alloc (Nat.le_refl _) _)
  have HP := Lib.hid (h.call HB.out)
  have he : ∀ w : World, (binOp .eql 22 (.slice (some ⟨g, off, none⟩) L.length cap) (.slice none 0 0)).run Try.prog w = .ok (.bool false) w := fun _ => rfl
  clear h hO
  go_enter Try.func48, Try.ntmps48
  go_wp2_with (at_builtin; refine wpList_append_pairs rfl (.tmp 5) (.tmp 6) rfl w.heap.size _ [] (some ⟨g, off, none⟩) cap L rfl HO.out rfl HP.out ?c1 ?c2 ?_)
  case c1 => simp; omega
  case c2 => simp
  intro v5 w5 hown5 hg5
  have hb5 : Below w.heap.size w w5 := HB.out.grown hg5 HB.out.size (fun k hk => by cases hk; exact Nat.le_refl _)
  obtain ⟨A5, k5, rfl⟩ := hown5.form
  have HO5 := Lib.hid hown5
  have HB5 := Lib.hid hb5
  clear hown5 hg5 hb5
  go_wp2_with fail
  go_ret
  exact ⟨_, rfl, HO5.out, HB5.out⟩

set_option maxRecDepth 100000 in
set_option maxHeartbeats 1000000 in
theorem spairs_of (w : World) (p A : Option Addr) (cap : Nat) (L : List PairV) (h : OwnsV w p A L.length cap) (hr : Slab w A cap L) (hl : L.length ≤ 1000) :
    Calls Try.prog 37 #[.pointer p] w fun e w' => ∃ v, e = .returned v ∧ OwnP w' w.heap.size v L ∧ Below w.heap.size w w' := by
  have H := Lib.hid h
  rcases hr.form with ⟨rfl, rfl, rfl⟩ | ⟨g, off, rfl⟩
  · have H0 : Hid (OwnsV w p none 0 0) := Lib.hid H.out
    clear h hr H
    go_enter Try.func37, Try.ntmps37
    go_wp2_with fail
    refine H0.out.now.mono ?_
    rintro e w2 ⟨rfl, rfl⟩
    go_wp2_with fail
    refine (clone_none w).mono ?_
    rintro e w3 ⟨rfl, rfl⟩
    go_wp2_with fail
    go_ret
    exact ⟨_, rfl, OwnP.nil _ _, Below.refl _ _⟩
  · obtain ⟨n, hn⟩ : ∃ n, L.length = n := ⟨_, rfl⟩
    have HC := Lib.hid (clone_some w g off n cap L hr.pairs hn.symm (by omega))
    rw [hn] at H
    clear h hr hn hl
    go_enter Try.func37, Try.ntmps37
    go_wp2_with fail
    refine H.out.now.mono ?_
    rintro e w2 ⟨rfl, rfl⟩
    go_wp2_with fail
    refine HC.out.mono ?_
    rintro e w3 ⟨v, rfl, ho, hb⟩
    obtain ⟨A5, k5, rfl⟩ := ho.form
    have HO5 := Lib.hid ho
    clear ho
    go_wp2_with fail
    go_ret
    exact ⟨_, rfl, HO5.out, hb⟩

set_option maxRecDepth 100000 in
set_option maxHeartbeats 1000000 in
theorem spairs_none (w : World) :
    Calls Try.prog 37 #[.pointer none] w fun e w' => ∃ A cap, e = .returned (.slice A 0 cap) ∧ Below w.heap.size w w' := by
  go_enter Try.func37, Try.ntmps37
  go_wp2_with fail
  refine (sown_none w).mono ?_
  rintro e w2 ⟨rfl, rfl⟩
  go_wp2_with fail
  refine (clone_none w).mono ?_
  rintro e w3 ⟨rfl, rfl⟩
  go_wp2_with fail
  go_ret
  exact ⟨none, 0, rfl, Below.refl _ _⟩

set_option maxRecDepth 100000 in
set_option maxHeartbeats 1000000 in
theorem sfind_of (w : World) (p A : Option Addr) (cap : Nat) (L : List PairV) (t x : Int) (fb : Bool) (h : OwnsV w p A L.length cap) (hP : Pairs w A L) (hl : L.length ≤ 1000) (ht : Word t) (hb : sumP L < 18446744073709551616) (hf : (findP L t).getD 0 = x) (hs : (findP L t).isSome = fb) :
    Calls Try.prog 40 #[.pointer p, .int .u64 t] w fun e w' => e = .returned (.tuple #[.int .i64 x, .bool fb]) ∧ Below w.heap.size w w' := by
  have H := Lib.hid h
  have HI := Lib.hid hP
  have HX := Lib.hid hf
  have HB := Lib.hid hs
  have HP := Lib.hid (fun k => sumP_take (L := L) k (ok_pos hP.ok))
  have HSL := Lib.hid hb
  have HAT := Lib.hid (fun k p => seek_at t L 0 k p (ok_pos hP.ok))
  have HNO := Lib.hid (seek_none t L 0 (ok_pos hP.ok))
  obtain ⟨t0, t1⟩ := ht
  clear h hP hf hs hb
  by_cases hz : t = 0
  · subst hz
    have HF : Hid (findP L 0 = none) := Lib.hid (by unfold findP; rw [if_neg (by omega)])
    have HE : Hid (0 = x ∧ false = fb) := Lib.hid (by
      have h1 := HX.out; have h2 := HB.out
      rw [HF.out] at h1 h2
      exact ⟨h1, h2⟩)
    go_enter Try.func40, Try.ntmps40
    go_wp2_with fail
    go_ret2
    exact ⟨by rw [← HE.out.1, ← HE.out.2]; rfl, Below.refl _ _⟩
  have hz' : (t == 0) = false := by simp [hz]
  have ht0 : 0 < t := by omega
  go_enter Try.func40, Try.ntmps40
  go_wp2_with fail
  refine H.out.now.mono ?_
  rintro e w2 ⟨rfl, rfl⟩
  go_wp2_with fail
  go_loopw [1, 13] (fun s j wr => ∃ (k : Nat) (u : Int), k ≤ L.length ∧ j = .int .i64 k ∧ s = .int .u64 u ∧ u = t - sumP (L.take k) ∧ 0 < u ∧ Below w.heap.size w wr) (fun _ j _ => L.length - (intOf j).toNat)
  case atStart => exact ⟨0, t, Nat.zero_le _, rfl, rfl, by rw [List.take_zero]; show t = t - 0; omega, ht0, Below.refl _ _⟩
  case round =>
    obtain ⟨k, u, hk, rfl, rfl, hu, hu0, hb2⟩ := hrel
    have HU := Lib.hid hu
    by_cases hlt : k < L.length
    · have kk : (k : Int) < L.length := by omega
      have hxk : L[k]? = some L[k] := List.getElem?_eq_getElem hlt
      generalize hit : L[k] = p at *
      obtain ⟨px, pc⟩ := p
      obtain ⟨b, off, rfl, hbl, c0, c1⟩ := (HI.out.call hb2).at_ k _ hxk
      have HS := Lib.hid (sum_step' hxk)
      have HXK := Lib.hid hxk
      have hok := HI.out.ok _ (List.mem_of_getElem? hxk)
      have p1 := HP.out (k + 1)
      have p0 := HP.out k
      rw [HS.out] at p1
      have hbs := hb2.size
      obtain ⟨⟨o1, o2⟩, o3, o4⟩ := hok
      simp only at c0 c1 o1 o2 o3 o4 p1 HS HXK
      obtain ⟨p2, p3⟩ := p1
      obtain ⟨p4, _⟩ := p0
      have u1 : u < 18446744073709551616 := by omega
      by_cases hge : u ≤ pc
      · have HF : Hid (findP L t = some px) := Lib.hid (by
          unfold findP; rw [if_pos ht0]
          exact HAT.out k (px, pc) HXK.out (by omega) (by show t ≤ 0 + sumP (L.take k) + pc; omega))
        have HE : Hid (px = x ∧ true = fb) := Lib.hid (by
          have h1 := HX.out; have h2 := HB.out
          rw [HF.out] at h1 h2
          exact ⟨h1, h2⟩)
        clear hxk hit hu p2 p3 p4
        go_wp2_with fail
        go_ret2
        exact ⟨by rw [← HE.out.1, ← HE.out.2]; rfl, hb2.alloc hbs _⟩
      · have HR : Hid (u - pc = t - sumP (L.take (k + 1))) := Lib.hid (by rw [HS.out]; omega)
        have hd : IntKind.u64.wrap (u - pc) = u - pc := by rw [IntKind.wrap_u64]; omega
        clear hxk hit hu p2 p3 p4
        go_wp2_with fail
        go_roundw
        case rel => exact ⟨k + 1, u - pc, by omega, by go_num, rfl, HR.out, by omega, hb2.alloc hbs _⟩
        case measure => simp [intOf]; omega
    · obtain rfl : k = L.length := by omega
      rw [List.take_length] at hu
      have HF : Hid (findP L t = none) := Lib.hid (by
        unfold findP
        rw [if_pos ht0]
        exact HNO.out (by omega))
      have HE : Hid (0 = x ∧ false = fb) := Lib.hid (by
        have h1 := HX.out; have h2 := HB.out
        rw [HF.out] at h1 h2
        exact ⟨h1, h2⟩)
      have kk : ¬ (L.length : Int) < L.length := by omega
      clear hu
      go_wp2_with fail
      go_ret2
      exact ⟨by rw [← HE.out.1, ← HE.out.2]; rfl, hb2⟩

set_option maxRecDepth 100000 in
set_option maxHeartbeats 1000000 in
theorem sbelow_none (w : World) (p : Option Addr) (i : Int) (h : OwnsV w p none 0 0) (hi : I64 i) :
    Calls Try.prog 42 #[.pointer p, .int .i64 i] w fun e w' => e = .returned (.int .u64 0) ∧ Below w.heap.size w w' := by
  have hF := find_big w none 0 [] i 0 false (Pairs.nil w) (by simp) good_nil hi rfl rfl
  have hT := fun w' => total_does w' none 0 [] 0 true (Pairs.nil w') (by simp) rfl rfl
  have HF : Hid (Calls Try.prog 50 #[.slice none 0 0, .int .i64 i] w fun e w' => e = .returned (.tuple #[.int .i64 0, .bool false]) ∧ Below w.heap.size w w') := Lib.hid hF
  have HT : Hid (∀ w' : World, Calls Try.prog 53 #[.slice none 0 0] w' fun e w'' => e = .returned (.tuple #[.int .u64 0, .bool true]) ∧ Below w'.heap.size w' w'') := Lib.hid hT
  have H := Lib.hid h
  clear h hF hT
  go_enter Try.func42, Try.ntmps42
  go_wp2_with fail
  refine H.out.now.mono ?_
  rintro e w2 ⟨rfl, rfl⟩
  go_wp2_with fail
  refine HF.out.mono ?_
  rintro e w3 ⟨rfl, b3⟩
  go_wp2_with fail
  refine (HT.out _).mono ?_
  rintro e w4 ⟨rfl, b4⟩
  go_wp2_with fail
  go_ret
  exact ⟨rfl, b3.trans (b4.mono b3.size)⟩

set_option maxRecDepth 100000 in
set_option maxHeartbeats 1000000 in
theorem sbelow_of (w : World) (p A : Option Addr) (cap : Nat) (L : List PairV) (i x : Int) (h : OwnsV w p A L.length cap) (hr : Slab w A cap L) (hg : GoodP L) (hl : L.length ≤ 1000) (hi : I64 i) (hs : sumP L ≤ 9223372036854775807) (hx : belowP L i = x) :
    Calls Try.prog 42 #[.pointer p, .int .i64 i] w fun e w' => e = .returned (.int .u64 x) ∧ Below w.heap.size w w' := by
  have hP := hr.pairs
  rcases hr.form with ⟨rfl, rfl, rfl⟩ | ⟨g, off, rfl⟩
  · subst hx
    exact sbelow_none w p i h hi
  · obtain ⟨n, hn, hnl, hor⟩ := good_where i hg
    have hcap := hr.fit
    have hT : ∀ k, k ≤ L.length → ∀ s, sumP (L.take k) = s → ∀ w', Below w.heap.size w w' → Calls Try.prog 53 #[.slice (some ⟨g, off, none⟩) k cap] w' fun e w'' => e = .returned (.tuple #[.int .u64 s, .bool true]) ∧ Below w'.heap.size w' w'' := fun k hk s hsum w' hb => by
      have hp : Pairs w (some ⟨g, off, none⟩) (L.take k) := pairs_low (hi := L.drop k) (by rw [List.take_append_drop]; exact hP)
      have hlen : (L.take k).length = k := by rw [List.length_take]; omega
      have hs2 := (sumP_take (L := L) k (ok_pos hP.ok)).2
      have hfit : fitsB (L.take k) = true := by unfold fitsB; apply decide_eq_true; omega
      have := total_does w' (some ⟨g, off, none⟩) cap (L.take k) s true (hp.call hb) (by omega) (by unfold totalP; rw [hfit]; exact hsum) hfit
      rw [hlen] at this
      exact this
    rcases hor with ⟨hb, hlt, _, hbl, _⟩ | ⟨hb, _, hbl, _⟩
    · have hF := find_big w (some ⟨g, off, none⟩) cap L i n true hP (by omega) hg hi hn hb
      have HF := Lib.hid hF
      have HT := Lib.hid (hT (n + 1) hlt x (by rw [← hbl]; exact hx))
      have H := Lib.hid h
      have nn : (n : Int) < L.length := by omega
      have n2 : n + 1 ≤ cap := by omega
      have n3 : (n : Int) + 1 ≤ cap := by omega
      obtain ⟨n1, hn1⟩ : ∃ n1, n + 1 = n1 := ⟨_, rfl⟩
      have e1 : (n : Int) + 1 = (n1 : Int) := by omega
      have e2 : IntKind.i64.wrap ((n : Int) + 1) = (n1 : Int) := by rw [IntKind.wrap_i64]; omega
      have e3 : (n1 : Int) ≤ cap := by omega
      rw [hn1] at HT
      clear h hT hF hP hg hn hx hb hbl hr hs
      go_enter Try.func42, Try.ntmps42
      go_wp2_with fail
      refine H.out.now.mono ?_
      rintro e w2 ⟨rfl, rfl⟩
      go_wp2_with fail
      refine HF.out.mono ?_
      rintro e w3 ⟨rfl, b3⟩
      go_wp2_with fail
      refine (HT.out _ b3).mono ?_
      rintro e w4 ⟨rfl, b4⟩
      go_wp2_with fail
      go_ret
      exact ⟨rfl, b3.trans (b4.mono b3.size)⟩
    · have hF := find_big w (some ⟨g, off, none⟩) cap L i n false hP (by omega) hg hi hn hb
      have HF := Lib.hid hF
      have HT := Lib.hid (hT n hnl x (by rw [← hbl]; exact hx))
      have H := Lib.hid h
      have n2 : n ≤ cap := by omega
      have n3 : (n : Int) ≤ cap := by omega
      clear h hT hF hP hg hn hx hb hbl hr hs
      go_enter Try.func42, Try.ntmps42
      go_wp2_with fail
      refine H.out.now.mono ?_
      rintro e w2 ⟨rfl, rfl⟩
      go_wp2_with fail
      refine HF.out.mono ?_
      rintro e w3 ⟨rfl, b3⟩
      go_wp2_with fail
      refine (HT.out _ b3).mono ?_
      rintro e w4 ⟨rfl, b4⟩
      go_wp2_with fail
      go_ret
      exact ⟨rfl, b3.trans (b4.mono b3.size)⟩
end Go.Proofs.Ytjgaieicljnhkaa

namespace Go.Proofs.Ytjgaieicljnhkaa
set_option linter.unusedVariables false
set_option linter.unusedSimpArgs false
open Go.RowKit

set_option maxRecDepth 100000 in
set_option maxHeartbeats 1000000 in
theorem sfirst_none (w : World) (p A : Option Addr) (cap : Nat) (h : OwnsV w p A 0 cap) :
    Calls Try.prog 56 #[.pointer p] w fun e w' => e = .returned (.tuple #[.agg #[.int .i64 0, .int .u64 0], .bool false]) ∧ Below w.heap.size w w' := by
  have hB : Below w.heap.size w (w.alloc (.cells #[.int .i64 0, .int .u64 0] 34)) := (Below.refl w.heap.size w).alloc (Nat.le_refl _) _
  have HB := Lib.hid hB
  have hO : OwnsV (w.alloc (.cells #[.int .i64 0, .int .u64 0] 34)) p A 0 cap := fun w' hb => h w' (hB.trans (hb.mono hB.size))
  have H := Lib.hid (slen_of _ p A 0 cap hO)
  clear h hB hO
  go_enter Try.func56, Try.ntmps56
  go_wp2_with fail
  refine H.out.mono ?_
  rintro e w2 ⟨rfl, rfl⟩
  go_wp2_with fail
  exact bodyPost_ret (v := .tuple #[.agg #[.int .i64 0, .int .u64 0], .bool false]) (by simp [results, Try.results56, go_sem]) rfl ⟨rfl, HB.out⟩

/-- A strip on its way: its block holds these; all else that was is as it was. -/
structure Left (w : World) (B : Nat) (m : Int) (V : Value) (t : Int) (X : World) : Prop where
  b : X.heap[B]? = some (.cells #[.int .i64 m, V, .int .u64 t] 74 (0, 0))
  k : Keeps (fun k => k = B) w X
theorem Left.start {w w2 : World} {B : Nat} {A : Option Addr} {n cap : Nat} {m t : Int} {L : List PairV} (h : LayS w B A n cap m t L) (b2 : Below w.heap.size w w2) (V : Value) (o : Obj) : Left w B m V t ((w2.setCell ⟨B, 1, none⟩ V).alloc o) := by
  have h1 : (w2.setCell ⟨B, 1, none⟩ V).heap[B]? = some (.cells #[.int .i64 m, V, .int .u64 t] 74 (0, 0)) := set_cells8 (h.call b2).b 1 V
  exact ⟨(heap_alloc_old _ _ (lt_of_block h1)).trans h1, (Keeps.set (S := fun k => k = B) (Keeps.of_below b2) 1 V (Or.inl rfl)).new o⟩
theorem Left.draws {w X : World} {B : Nat} {m t : Int} {V : Value} (h : Left w B m V t X) (n : Nat) : Left w B m V t (X.drewN n) := ⟨((below_drewN (Below.refl X.heap.size X) n).block _ (lt_of_block h.b)).trans h.b, h.k.draws n⟩
theorem Left.total {w X : World} {B : Nat} {m t : Int} {V : Value} (h : Left w B m V t X) (t' : Int) : Left w B m V t' (X.setCell ⟨B, 2, none⟩ (.int .u64 t')) := ⟨set_cells8 h.b 2 _, h.k.set 2 _ (Or.inl rfl)⟩
theorem Left.box {w X : World} {B : Nat} {m t : Int} {V : Value} (h : Left w B m V t X) (hB : B < w.heap.size) (o : Nat) (u : Value) : Left w B m V t (X.setCell ⟨w.heap.size, o, none⟩ u) :=
  ⟨by rw [Below.heap_setCell _ _ _ _ (by show B ≠ w.heap.size; omega)]; exact h.b, h.k.set o u (Or.inr (Nat.le_refl _))⟩
theorem left_facts {w w2 : World} {B : Nat} {A : Option Addr} {n cap : Nat} {m t : Int} {L : List PairV} (h : LayS w B A n cap m t L) (b2 : Below w.heap.size w w2) (hz : w2.heap.size = w.heap.size + 1) (hw : Two w2 w.heap.size (.int .i64 0) (.int .u64 0)) (V : Value) (px pc : Int) :
    ∃ X, (w2.setCell ⟨B, 1, none⟩ V).alloc (.cells #[.int .i64 px, .int .u64 pc] 34) = X ∧ Left w B m V t X ∧ X.cell? ⟨B, 2, none⟩ = some (.int .u64 t) ∧ X.frozen? ⟨B, 2, none⟩ = false ∧
      X.cell? ⟨w.heap.size + 1, 0, none⟩ = some (.int .i64 px) ∧ X.cell? ⟨w.heap.size + 1, 1, none⟩ = some (.int .u64 pc) ∧ Two X w.heap.size (.int .i64 0) (.int .u64 0) := by
  have h1 := Left.start h b2 V (.cells #[.int .i64 px, .int .u64 pc] 34)
  have hsz : (w2.setCell ⟨B, 1, none⟩ V).heap.size = w.heap.size + 1 := by simpa [World.setCell] using hz
  have h2 : ((w2.setCell ⟨B, 1, none⟩ V).alloc (.cells #[.int .i64 px, .int .u64 pc] 34)).heap[w.heap.size + 1]? = some (.cells #[.int .i64 px, .int .u64 pc] 34 (0, 0)) := by
    have := heap_alloc_new (w2.setCell ⟨B, 1, none⟩ V) (.cells #[.int .i64 px, .int .u64 pc] 34)
    rwa [hsz] at this
  have hBl := h.lt
  refine ⟨_, rfl, h1, by rw [Joins.cell_of_block h1.b]; rfl, free8 h1.b _, by rw [Joins.cell_of_block h2]; rfl, by rw [Joins.cell_of_block h2]; rfl, ?_⟩
  refine hw.block ?_
  rw [heap_alloc_old _ _ (by rw [hsz]; omega), Below.heap_setCell _ _ _ _ (by show w.heap.size ≠ B; omega)]
theorem left_done {w X : World} {B : Nat} {m t : Int} {V : Value} {px pc : Int} (h : Left w B m V t X) (hB : B < w.heap.size) (p0 : X.cell? ⟨w.heap.size + 1, 0, none⟩ = some (.int .i64 px)) (p1 : X.cell? ⟨w.heap.size + 1, 1, none⟩ = some (.int .u64 pc)) (hw : Two X w.heap.size (.int .i64 0) (.int .u64 0)) (t' : Int) :
    ∃ Y, (X.setCell ⟨B, 2, none⟩ (.int .u64 t')).drew = Y ∧ Y.cell? ⟨w.heap.size + 1, 0, none⟩ = some (.int .i64 px) ∧ Y.cell? ⟨w.heap.size + 1, 1, none⟩ = some (.int .u64 pc) ∧ Two Y w.heap.size (.int .i64 0) (.int .u64 0) ∧
      (Y.setCell ⟨w.heap.size, 0, none⟩ (.int .i64 px)).cell? ⟨w.heap.size, 0, none⟩ = some (.int .i64 px) ∧
      ((Y.setCell ⟨w.heap.size, 0, none⟩ (.int .i64 px)).setCell ⟨w.heap.size, 1, none⟩ (.int .u64 pc)).cell? ⟨w.heap.size, 1, none⟩ = some (.int .u64 pc) ∧
      Left w B m V t' ((Y.setCell ⟨w.heap.size, 0, none⟩ (.int .i64 px)).setCell ⟨w.heap.size, 1, none⟩ (.int .u64 pc)) := by
  have hL : Left w B m V t' ((X.setCell ⟨B, 2, none⟩ (.int .u64 t')).drew) := (h.total t').draws 1
  have e : ∀ k, k ≠ B → ((X.setCell ⟨B, 2, none⟩ (.int .u64 t')).drew).heap[k]? = X.heap[k]? := fun k hk => Below.heap_setCell _ _ _ _ hk
  have hT : Two ((X.setCell ⟨B, 2, none⟩ (.int .u64 t')).drew) w.heap.size (.int .i64 0) (.int .u64 0) := hw.block (e _ (by omega))
  refine ⟨_, rfl, (World.cell?_of_block (a := ⟨w.heap.size + 1, 0, none⟩) (e (w.heap.size + 1) (by omega))).trans p0, (World.cell?_of_block (a := ⟨w.heap.size + 1, 1, none⟩) (e (w.heap.size + 1) (by omega))).trans p1, hT, World.cell?_setCell_same _ _ _ hT.c0, ?_, (hL.box hB _ _).box hB _ _⟩
  exact World.cell?_setCell_same _ _ _ (u := .int .u64 0) (by rw [World.cell?_setCell_other _ _ _ _ (two_off (by omega))]; exact hT.c1)
theorem left_end {w X : World} {B : Nat} {A A' : Option Addr} {n n' cap cap' : Nat} {m t t' : Int} {L L' : List PairV} {S : Nat → Prop} (h : LayS w B A n cap m t L) (hS : ∀ k, S k ↔ k = B ∨ blkA A = some k)
    (hA : ∀ k, blkA A' = some k → blkA A = some k) (hr : Slab w A' cap' L') (hn : L'.length = n') (hst : Stp m L') (hm : I64 m) (ht : sumP L' = t') (hX : Left w B m (.slice A' n' cap') t' X) :
    ∃ S', StX X B S' m L' ∧ Keeps S w X ∧ (∀ k, S' k → S k ∨ w.heap.size ≤ k) := by
  subst hn ht
  refine ⟨fun k => k = B ∨ blkA A' = some k, ⟨hst, hm, A', cap', ⟨hX.b, ?_⟩, fun k => Iff.rfl⟩, ?_, ?_⟩
  · exact hr.keep fun k hk => hX.k.block k (hr.lt hk) (h.ne (hA k hk))
  · exact ⟨hX.k.os, hX.k.tape, hX.k.output, hX.k.size, fun k hk hn => hX.k.block k hk (fun e => hn ((hS k).2 (Or.inl e)))⟩
  · rintro k (rfl | hk)
    · exact Or.inl ((hS k).2 (Or.inl rfl))
    · exact Or.inl ((hS k).2 (Or.inr (hA k hk)))

set_option maxRecDepth 100000 in
set_option maxHeartbeats 4000000 in
theorem sfirst_some (w : World) (B : Nat) (S : Nat → Prop) (m : Int) (L : List PairV) (h : StX w B S m L) (hl : L.length ≤ 900) (hne : L ≠ []) :
    Calls Try.prog 56 #[.pointer (some ⟨B, 0, none⟩)] w fun e w' => ∃ S', e = .returned (.tuple #[.agg #[.int .i64 (firP L).1, .int .u64 (firP L).2], .bool (!L.isEmpty)]) ∧ StX w' B S' m L.tail ∧ Keeps S w w' ∧ (∀ k, S' k → S k ∨ w.heap.size ≤ k) := by
  have HT8 := Lib.hid (stp_tail h.1)
  obtain ⟨hst, hm, A, cap, hL, hS⟩ := h
  obtain ⟨px, pc, hx0⟩ : ∃ px pc, L[0]? = some (px, pc) := by
    cases L with
    | nil => exact absurd rfl hne
    | cons p r => exact ⟨p.1, p.2, rfl⟩
  obtain ⟨N, hN⟩ : ∃ N, L.length = N := ⟨_, rfl⟩
  have hpos : 0 < N := by rw [← hN]; cases L with
    | nil => exact absurd rfl hne
    | cons p r => simp
  obtain ⟨nn, hnn⟩ : ∃ nn, N - 1 = nn := ⟨_, rfl⟩
  have HF : Hid (firP L = (px, pc) ∧ (!L.isEmpty) = true ∧ L.tail.length = nn ∧ sumP L.tail = sumP L - pc ∧ 0 ≤ pc) := Lib.hid (by
    have hok := ok_pos hst.ok
    cases L with
    | nil => exact absurd rfl hne
    | cons p r =>
      obtain rfl := Option.some.inj hx0
      refine ⟨rfl, rfl, ?_, ?_, hok (px, pc) (by simp)⟩
      · rw [List.length_cons] at hN; show r.length = nn; omega
      · rw [sumP_cons]; show sumP r = pc + sumP r - pc; omega)
  rw [HF.out.1, HF.out.2.1]
  obtain ⟨g, off, rfl, hbl, d0, d1⟩ := hL.row.pairs.at_ 0 _ hx0
  simp only [Nat.zero_mul, Nat.add_zero] at d0 d1
  have hfit := hL.row.fit
  have htl : L.drop 1 = L.tail := List.drop_one
  have hpt : Pairs w (some ⟨g, off + 2, none⟩) L.tail := by have := hL.row.pairs.shift 1; rw [htl] at this; exact this
  have hblk : ∃ cs, w.heap[g]? = some (.cells cs 34 (0, 0)) := by
    rcases hL.row.blk with ⟨e, _⟩ | ⟨g', off', cs, e, hb⟩
    · cases e
    · obtain ⟨rfl, rfl, _⟩ := Addr.mk.inj (Option.some.inj e)
      exact ⟨cs, hb⟩
  obtain ⟨cs, hcs⟩ := hblk
  have hs0 := sumP_tail (ok_pos hst.ok)
  have hs1 := hst.sum
  obtain ⟨t, ht⟩ : ∃ t, sumP L = t := ⟨_, rfl⟩
  have h2 := HF.out.2.2.2.1
  have h3 := HF.out.2.2.2.2
  rw [ht] at hs0 hs1 h2
  rw [h2] at hs0
  rw [ht, hN] at hL
  have ut : IntKind.u64.wrap (t - pc) = t - pc := by rw [IntKind.wrap_u64]; omega
  have hBw := hL.lt
  have hBg : g ≠ B := hL.ne rfl
  have HA1 : Hid (∀ k, blkA (some ⟨g, off + 2, none⟩) = some k → blkA (some ⟨g, off, none⟩) = some k) := Lib.hid fun k hk => hk
  have HL := Lib.hid hL
  have HS := Lib.hid hS
  have HM := Lib.hid hm
  have HR1 : Hid (cap ≠ 1 → Slab w (some ⟨g, off + 2, none⟩) (cap - 1) L.tail) := Lib.hid fun hc => ⟨hpt, by rw [List.length_tail]; omega, Or.inr ⟨g, off + 2, cs, rfl, hcs⟩, (fun g' off' cs' e hg' => by
    obtain ⟨rfl, rfl, _⟩ := Addr.mk.inj (Option.some.inj e)
    have hrm := HL.out.row.room _ _ _ rfl hg'
    omega), by have := HL.out.row.capm; omega⟩
  have HR0 : Hid (N = 1 → Slab w (some ⟨g, off, none⟩) 0 L.tail ∧ L.tail.length = 0) := Lib.hid fun hc => by
    have h1 : L.tail.length = 0 := by rw [List.length_tail]; omega
    have h2 : L.tail = [] := List.eq_nil_of_length_eq_zero h1
    rw [h2]
    exact ⟨⟨⟨fun p h => (by cases h), fun i p h => by simp at h⟩, by simp, Or.inr ⟨g, off, cs, rfl, hcs⟩, (fun g' off' cs' e hg' => by
      obtain ⟨rfl, rfl, _⟩ := Addr.mk.inj (Option.some.inj e)
      have hrm := HL.out.row.room _ _ _ rfl hg'
      omega), by omega⟩, rfl⟩
  have kk : (0 : Int) < N := by omega
  have kk1 : ((N : Int) == 0) = false := by simp; omega
  obtain ⟨w2, hw2⟩ : ∃ w2, (w.alloc (.cells #[.int .i64 0, .int .u64 0] 34)) = w2 := ⟨_, rfl⟩
  have b2 : Below w.heap.size w w2 := by rw [← hw2]; exact (Below.refl _ _).alloc (Nat.le_refl _) _
  have hO2 : OwnsV w2 (some ⟨B, 0, none⟩) (some ⟨g, off, none⟩) N cap := owns_at (cell_later b2 hL.c1)
  have H := Lib.hid (slen_of _ _ _ _ _ hO2)
  have q1 := cell_later b2 hL.c1
  have e0 := cell_later b2 d0
  have e1 := cell_later b2 d1
  have hz2 : w2.heap.size = w.heap.size + 1 := by rw [← hw2]; simp
  have B2 := Lib.hid b2
  have f1 : w2.frozen? ⟨B, 1, none⟩ = false := (hL.call b2).f 1
  have HW2 : Hid (Two w2 w.heap.size (.int .i64 0) (.int .u64 0)) := Lib.hid (by rw [← hw2]; exact Two.new _ _ _ _)
  have hN9 : N ≤ 900 := by omega
  have HN := Lib.hid hnn
  have HSUM := Lib.hid h2
  have hcap : N ≤ cap := by omega
  have hNN : (nn : Int) ≤ 900 := by omega
  clear hst hm hx0 hN hL hS hne hl hnn hfit htl hpt hcs ht h2 h3 hO2 b2 d0 d1 hbl
  go_enter Try.func56, Try.ntmps56
  go_wp2_with fail
  clear hw2
  refine H.out.mono ?_
  rintro e w3 ⟨rfl, rfl⟩
  by_cases hc1 : cap = 1
  · subst hc1
    obtain rfl : N = 1 := by omega
    go_wp2_with fail
    obtain ⟨X, hX, hLf, x2, xf, p0, p1, hTw⟩ := left_facts HL.out B2.out hz2 HW2.out (.slice (some ⟨g, off, none⟩) 0 0) px pc
    rw [hX]
    clear hX
    have HLF := Lib.hid hLf
    have HTW := Lib.hid hTw
    clear hLf hTw e0 e1 q1
    go_region
    obtain ⟨Y, hY, y0, y1, ⟨j0, j1, j2, j3⟩, q5, q6, hLY⟩ := left_done HLF.out hBw p0 p1 HTW.out (t - pc)
    rw [hY]
    have Q5 := Lib.hid q5
    have Q6 := Lib.hid q6
    have HLY := Lib.hid hLY
    clear hY q5 q6 hLY
    go_wp2_with fail
    refine bodyPost_ret (v := .tuple #[.agg #[.int .i64 px, .int .u64 pc], .bool true]) (by simp [results, Try.results56, go_sem, Q5.out, Q6.out]) rfl ?_
    obtain ⟨S', hs1, hs2, hs3⟩ := left_end HL.out HS.out (fun k hk => hk) (HR0.out trivial).1 (HR0.out trivial).2 HT8.out HM.out HSUM.out HLY.out
    exact ⟨S', rfl, hs1, hs2, hs3⟩
  · go_wp2_with fail
    obtain ⟨X, hX, hLf, x2, xf, p0, p1, hTw⟩ := left_facts HL.out B2.out hz2 HW2.out (.slice (some ⟨g, off + 2, none⟩) (N - 1) (cap - 1)) px pc
    rw [hX]
    clear hX
    have HLF := Lib.hid hLf
    have HTW := Lib.hid hTw
    clear hLf hTw e0 e1 q1
    go_region
    obtain ⟨Y, hY, y0, y1, ⟨j0, j1, j2, j3⟩, q5, q6, hLY⟩ := left_done HLF.out hBw p0 p1 HTW.out (t - pc)
    rw [hY]
    have Q5 := Lib.hid q5
    have Q6 := Lib.hid q6
    have HLY := Lib.hid hLY
    clear hY q5 q6 hLY
    go_wp2_with fail
    refine bodyPost_ret (v := .tuple #[.agg #[.int .i64 px, .int .u64 pc], .bool true]) (by simp [results, Try.results56, go_sem, Q5.out, Q6.out]) rfl ?_
    obtain ⟨S', hs1, hs2, hs3⟩ := left_end HL.out HS.out HA1.out (HR1.out hc1) (HF.out.2.2.1.trans HN.out.symm) HT8.out HM.out HSUM.out HLY.out
    exact ⟨S', rfl, hs1, hs2, hs3⟩

theorem empty_len {L : List PairV} (h : L = []) : L.length = 0 := by rw [h]; rfl

theorem sfirst_any (w : World) (B : Nat) (S : Nat → Prop) (m : Int) (L : List PairV) (h : StX w B S m L) (hl : L.length ≤ 900) :
    Calls Try.prog 56 #[.pointer (some ⟨B, 0, none⟩)] w fun e w' => ∃ S', e = .returned (.tuple #[.agg #[.int .i64 (firP L).1, .int .u64 (firP L).2], .bool (!L.isEmpty)]) ∧ StX w' B S' m L.tail ∧ Keeps S w w' ∧ (∀ k, S' k → S k ∨ w.heap.size ≤ k) := by
  by_cases hne : L = []
  · subst hne
    have hX := h
    obtain ⟨hst, hm, A, cap, hL, hS⟩ := h
    refine (sfirst_none w _ A cap (owns_at hL.c1)).mono ?_
    rintro e w1 ⟨rfl, b1⟩
    exact ⟨S, rfl, stx_keep _ _ _ _ _ _ hX (fun k hk => b1.block k (stx_lt _ _ _ _ _ hX k hk)), Keeps.of_below b1, fun k hk => Or.inl hk⟩
  · exact sfirst_some w B S m L h hl hne

end Go.Proofs.Ytjgaieicljnhkaa

namespace Go.Proofs.Ytjgaieicljnhkaa
set_option linter.unusedVariables false
set_option linter.unusedSimpArgs false
open Go.RowKit

theorem same_below {P : Ending → Prop} {w : World} {e : Ending} {w' : World} (h : P e ∧ w = w') : P e ∧ Below w.heap.size w w' := by
  obtain ⟨h1, rfl⟩ := h
  exact ⟨h1, Below.refl _ _⟩
theorem strip_does : StripDoes StX where
  keep := stx_keep
  lt := stx_lt
  stp := fun w B S m L h => h.1
  cells := stx_cells
  new := fun w m h1 h2 => snew_any w m h1 h2
  bad := fun w m h1 h2 => sbad_any w m h1 h2
  add := fun w B S m L i c h hl hi hc => sadd_any w B S m L i c h hl hi hc
  first := fun w B S m L h hl => sfirst_any w B S m L h hl
  at_ := fun w B S m L i h hl hi => by
    obtain ⟨hst, hm, A, cap, hL, hS⟩ := h
    exact sat_of w _ A cap L i (owns_at hL.c1) hL.row.pairs hst.good (by omega) hi
  total := fun w B S m L h hl => by
    obtain ⟨hst, hm, A, cap, hL, hS⟩ := h
    exact (stotal_at w B _ hL.c2).mono fun e w' => same_below (P := fun e => e = _)
  len := fun w B S m L h hl => by
    obtain ⟨hst, hm, A, cap, hL, hS⟩ := h
    exact (slen_of w _ A _ cap (owns_at hL.c1)).mono fun e w' => same_below (P := fun e => e = _)
  ends := fun w B S m L h hl => by
    obtain ⟨hst, hm, A, cap, hL, hS⟩ := h
    by_cases hne : L = []
    · subst hne
      exact sends_none w _ A cap (owns_at hL.c1)
    · have hpos : 0 < L.length := by cases L with
        | nil => exact absurd rfl hne
        | cons p r => simp
      obtain ⟨px, pc, hx0⟩ : ∃ px pc, L[0]? = some (px, pc) := ⟨L[0].1, L[0].2, List.getElem?_eq_getElem hpos⟩
      obtain ⟨qx, qc, hx1⟩ : ∃ qx qc, L[L.length - 1]? = some (qx, qc) := ⟨L[L.length - 1].1, L[L.length - 1].2, List.getElem?_eq_getElem (by omega)⟩
      have h1 : (firP L).1 = px := by unfold firP; rw [List.head?_eq_getElem?, hx0]; rfl
      have h2 : (lasP L).1 = qx := by unfold lasP; rw [List.getLast?_eq_getElem?, hx1]; rfl
      have h3 : (!L.isEmpty) = true := by cases L with
        | nil => exact absurd rfl hne
        | cons p r => rfl
      rw [h1, h2, h3]
      exact sends_of w _ A cap L.length px pc qx qc L (owns_at hL.c1) hL.row.pairs rfl hpos (by omega) hx0 hx1
  pairs := fun w B S m L h hl => by
    obtain ⟨hst, hm, A, cap, hL, hS⟩ := h
    exact spairs_of w _ A cap L (owns_at hL.c1) hL.row (by omega)
  find := fun w B S m L t h hl ht => by
    obtain ⟨hst, hm, A, cap, hL, hS⟩ := h
    exact sfind_of w _ A cap L t _ _ (owns_at hL.c1) hL.row.pairs (by omega) ht (by have := hst.sum; omega) rfl rfl
  below := fun w B S m L i h hl hi => by
    obtain ⟨hst, hm, A, cap, hL, hS⟩ := h
    exact sbelow_of w _ A cap L i _ (owns_at hL.c1) hL.row hst.good (by omega) hi hst.sum rfl
theorem strip_nil : StripNil where
  add := fun w i c hi hc => sadd_none w i c hi hc
  first := fun w => sfirst_none w none none 0 (owns_none w)
  at_ := fun w i hi => sat_of w none none 0 [] i (owns_none w) (Pairs.nil w) good_nil (by simp) hi
  total := fun w => (stotal_none w).mono fun e w' => same_below (P := fun e => e = _)
  len := fun w => (slen_of w none none 0 0 (owns_none w)).mono fun e w' => same_below (P := fun e => e = _)
  ends := fun w => sends_none w none none 0 (owns_none w)
  pairs := fun w => spairs_none w
  find := fun w t ht => sfind_of w none none 0 [] t 0 false (owns_none w) (Pairs.nil w) (by simp) ht (by decide) (by unfold findP; split <;> rfl) (by unfold findP; split <;> rfl)
  below := fun w i hi => sbelow_none w none i (owns_none w) hi
end Go.Proofs.Ytjgaieicljnhkaa

/-
  Package lowcap does what the laws ask of it.
-/
namespace Go.Proofs.Ytjgaieicljnhkaa
set_option linter.unusedVariables false
set_option linter.unusedSimpArgs false
open Go.RowKit Go.Shelf

/-- A lowcap over such strips. -/
abbrev LwX := LowX StX
theorem low_does : LowDoes LwX where
  keep := fun w w' B S m K T h hk => ⟨h.1, raw_keep strip_does h.2 hk⟩
  lt := fun w B S m K T h => raw_lt strip_does h.2
  lwp := fun w B S m K T h => h.1
  new := fun w m h1 h2 => (lnew_any strip_does w m h1 h2).mono fun e w' ⟨B, S, he, hr, hS, hb⟩ => ⟨B, S, he, ⟨Lwp.nil h1 h2, hr⟩, hS, hb⟩
  bad := fun w m hm hb => lbad_any strip_does w m hm hb
  add := fun w B S m K T i c h hl hi hc => ladd_any strip_does w B S m K T i c h hl hi hc
  merge := fun w B S m K T B' S' K' T' h h' hd hl hl' hs => ((callsIn_wide (n := 8)).1 (lmerge_in strip_does w B S m K T B' S' K' T' h h' hd hl hl' hs)).mono fun e w' ⟨he, S2, hr, hk, hS⟩ => ⟨S2, he, ⟨h.1.join h'.1 hs, hr⟩, hk, hS⟩
  other := fun w B S m K T B' S' m' K' T' h h' hm => by
    obtain ⟨_, C, S0, hb, _⟩ := h
    obtain ⟨_, C', S0', hb', _⟩ := h'
    exact lmerge_other w B B' m m' (three_cells hb).1 (three_cells hb').1 hm
  mnil := fun w B S m K T h => lmerge_none w B
  total := fun w B S m K T h hl => ltotal_raw strip_does h (by omega)
  lost := fun w B S m K T h => by
    obtain ⟨_, C, S0, hb, _⟩ := h
    exact (llost_at w B _ (three_cells hb).2.2).mono fun e w' => same_below (P := fun e => e = _)
  pairs := fun w B S m K T h hl => by
    obtain ⟨_, C, S0, hb, hst, _⟩ := h
    refine lpairs_of w _ _ _ (ownsl_at (three_cells hb).2.1) (fun e w' h => ?_) (strip_does.pairs _ _ _ _ _ hst (by omega))
    obtain ⟨v, rfl, ho, _⟩ := h
    obtain ⟨A, cap, rfl⟩ := ho.form
    exact ⟨A, _, cap, rfl⟩
  at_ := fun w B S m K T i h hl hi => by
    obtain ⟨_, C, S0, hb, hst, _⟩ := h
    exact lat_of w _ _ i _ (ownsl_at (three_cells hb).2.1) (strip_does.at_ _ _ _ _ _ i hst (by omega) hi)
  most := fun w B S m K T h => by
    obtain ⟨_, C, S0, hb, _⟩ := h
    exact (lmost_at w B _ (three_cells hb).1).mono fun e w' => same_below (P := fun e => e = _)
  find := fun w B S m K T t h hl ht => by
    obtain ⟨hp, C, S0, hb, hst, _⟩ := h
    have h1 := hp.sum
    have h2 := hp.top
    have h3 := hp.pos
    unfold Word at ht
    refine lfind_of w _ _ (T - sumP K) t _ _ (ownsl_at (three_cells hb).2.1) (lostsl_at (three_cells hb).2.2) ⟨by omega, by omega⟩ ht (fun hle => by unfold findL; rw [if_pos hle]; exact ⟨rfl, rfl⟩) (fun hlt => ?_)
    have e : findL K (T - sumP K) t = findP K (t - (T - sumP K)) := by unfold findL; rw [if_neg (by omega)]
    rw [e]
    exact strip_does.find _ _ _ _ _ _ hst (by omega) ⟨by omega, by omega⟩
  below := fun w B S m K T i h hl hi => by
    obtain ⟨hp, C, S0, hb, hst, _⟩ := h
    have h1 := hp.sum
    have h2 := hp.top
    have h3 := hp.pos
    have h4 := below_le (L := K) i (ok_pos hp.ok)
    have h5 : 0 ≤ belowP K i := (sumP_filter _ (ok_pos hp.ok)).1
    have hm := hp.m1
    have hm2 := hp.m2
    have hc : (K ≠ [] ∧ m < endP K - i) ↔ m < underV K i := by
      unfold underV
      constructor
      · rintro ⟨a, b⟩; rw [if_pos ⟨a, by omega⟩]; exact b
      · intro a
        split at a
        · rename_i h; exact ⟨h.1, a⟩
        · omega
    have hlt := strip_does.lt _ _ _ _ _ hst
    refine lbelow_of w _ _ m (T - sumP K) i (underV K i) (belowP K i) _ _ (ownsl_at (three_cells hb).2.1) (lostsl_at (three_cells hb).2.2) (fun w' hw => lmost_at w' B m (cell_later hw (three_cells hb).1)) (fun w' hw => ?_) ⟨by omega, by omega⟩ (under_word hp.ok hi) (by omega) hm2 (fun w' hw => ?_) h5 (by omega) ?_ ?_
    · exact lunder_of w' _ _ K i (ownsl_at (cell_later hw (three_cells hb).2.1)) hi (end_i64 hp.ok) (fir_i64 hp.ok) (strip_does.ends _ _ _ _ _ (strip_does.call hst hw) (by omega))
    · exact strip_does.below _ _ _ _ _ i (strip_does.call hst hw) (by omega) hi
    · unfold lowB
      by_cases h : m < underV K i
      · rw [if_pos (hc.2 h), if_pos h]
      · rw [if_neg (fun a => h (hc.1 a)), if_neg h]
    · unfold highB
      by_cases h : m < underV K i
      · rw [if_pos (hc.2 h), if_pos h]
      · rw [if_neg (fun a => h (hc.1 a)), if_neg h]
  load := fun w m A cap L l m1 m2 hP hl hw hb => (lload_any strip_does w m A cap L l m1 m2 hP hl hw hb).mono fun e w' ⟨B, S, he, hr, hS, hbb⟩ => by
    obtain ⟨h1, h2, h3, h4, h5⟩ := load_true hb
    refine ⟨B, S, he, ⟨⟨h1, hP.ok, ?_, by have := hw.1; omega, h4, m1, m2⟩, ?_⟩, hS, hbb⟩
    · have := take_kept (k := L.length) (m := m) (by omega) h1 h5
      rwa [List.take_length] at this
    · rw [show sumP L + l - sumP L = l by omega]
      exact hr
  unfit := fun w m A cap L l m1 m2 hP hl hw hb => lunfit_any strip_does w m A cap L l m1 m2 hP hl hw hb

set_option maxHeartbeats 400000 in
theorem ladd_nil (w : World) (i c : Int) (hi : I64 i) (hc : Word c) : Calls Try.prog 11 #[.pointer none, .int .i64 i, .int .u64 c] w fun e w' => e = .returned (.int .i64 2) ∧ Below w.heap.size w w' := by
  go_enter Try.func11, Try.ntmps11
  go_wp2_with fail
  go_ret
  exact ⟨rfl, Below.refl _ _⟩

theorem low_nil : LowNil where
  add := ladd_nil
  merge := lmerge_nil
  total := fun w => ltotal_of w none none 0 0 (ownsl_none w) (lostsl_none w) (strip_nil.total w) (by decide) (by decide) (by decide)
  lost := fun w => (llost_none w).mono fun e w' => same_below (P := fun e => e = _)
  pairs := fun w => lpairs_of w none none _ (ownsl_none w) (fun e w' h => by
    obtain ⟨A, cap, rfl, _⟩ := h
    exact ⟨A, 0, cap, rfl⟩) (strip_nil.pairs w)
  at_ := fun w i hi => lat_of w none none i 0 (ownsl_none w) (strip_nil.at_ w i hi)
  most := fun w => (lmost_none w).mono fun e w' => same_below (P := fun e => e = _)
  find := fun w t ht => lfind_of w none none 0 t 0 false (ownsl_none w) (lostsl_none w) ⟨by decide, by decide⟩ ht (fun _ => ⟨rfl, rfl⟩) (fun h => by
    rw [Int.sub_zero]
    exact strip_nil.find w t ht)
  below := fun w i hi => by
    refine lbelow_of w none none 0 0 i 0 0 0 0 (ownsl_none w) (lostsl_none w) (fun w' hw => lmost_none w') (fun w' hw => ?_) ⟨by decide, by decide⟩ ⟨by decide, by decide⟩ (by decide) (by decide) (fun w' hw => strip_nil.below w' i hi) (by decide) (by decide) (by decide) (by decide)
    exact lunder_of w' none none [] i (ownsl_none w') hi ⟨by decide, by decide⟩ ⟨by decide, by decide⟩ (strip_nil.ends w')
end Go.Proofs.Ytjgaieicljnhkaa

/-
  How an argument of the laws is opened, and shut again: a wide number, a fraction, a word.
-/
namespace Go.Proofs.Ytjgaieicljnhkaa
set_option linter.unusedVariables false
set_option maxRecDepth 100000
open Go.ChangeShapes Go.WideShapes Go.ChangeAt Go.RowKit Go.Joins

theorem own : ownKnob Try.prog.godebug = none := by kernel_rfl
theorem laidOut : laidOutB Try.prog = true := by kernel_rfl
theorem word_of_wf {x : Int} (h : (Lit.int .u64 x).wf = true) : Word x := by
  simp [Lit.wf, IntKind.min, IntKind.max, IntKind.signed, IntKind.bits] at h
  exact ⟨by omega, by omega⟩
end Go.Proofs.Ytjgaieicljnhkaa

/-
  How arguments are opened where the reach counts: bytes, half words, strings.
-/
namespace Go.Proofs.Ytjgaieicljnhkaa
set_option linter.unusedVariables false
open Go.ChangeShapes Go.WideShapes Go.ChangeAt Go.RowKit Go.Joins

theorem byte_of_wf {x : Int} (h : (Lit.int .u8 x).wf = true) : 0 ≤ x ∧ x < 256 := by
  simp [Lit.wf, IntKind.min, IntKind.max, IntKind.signed, IntKind.bits] at h
  exact ⟨by omega, by omega⟩
theorem half_of_wf {x : Int} (h : (Lit.int .u32 x).wf = true) : 0 ≤ x ∧ x < 4294967296 := by
  simp [Lit.wf, IntKind.min, IntKind.max, IntKind.signed, IntKind.bits] at h
  exact ⟨by omega, by omega⟩
theorem size_reach {s : ByteArray} (h : s.data.toList.length ≤ reachBytes) : s.size ≤ 140737488351232 := by
  rw [Lib.size_eq]; exact h
end Go.Proofs.Ytjgaieicljnhkaa

/-
  How a row of pairs, and a row of rows, that comes in as an argument is opened.
  How a pair that comes in as an argument by value is opened, and shut again.
-/
namespace Go.Proofs.Ytjgaieicljnhkaa
set_option linter.unusedVariables false
set_option linter.unusedSimpArgs false
set_option maxRecDepth 100000
open Go.ChangeShapes Go.WideShapes Go.ChangeAt Go.RowKit Go.Joins

instance : Inhabited RowV := ⟨⟨none, 0, []⟩⟩
theorem add_deep (a : Addr) (i j : Nat) : (a.add i).add j = a.add (i + j) := Go.Deep.add_add a i j
theorem cellsPair : Try.prog.cellsOf 34 = 2 := by kernel_rfl
theorem bytesPair : Try.prog.bytesOf 34 = 16 := by kernel_rfl
theorem cellsRow2 : Try.prog.cellsOf 22 = 1 := by kernel_rfl
theorem bytesRow2 : Try.prog.bytesOf 22 = 24 := by kernel_rfl
/-- Two cells that read as a pair. -/
theorem open_pair {H : Type} {enc : TypeId × Value → H} {W : World} {base n : Nat} {spare : Nat → Bool} {held : Bool} {ad : Addr} {cs : List Value} {d : DataW H} {pl : List MemPlace}
    (hc : W.cells? base ad 2 = some cs) (h : DataW.trod enc Try.prog W base spare held n 34 cs = some (d, pl)) :
    ∃ p : PairV, okP p ∧ W.cell? (ad.add 0) = some (.int .i64 p.1) ∧ W.cell? (ad.add 1) = some (.int .u64 p.2) := by
  obtain ⟨_, hl, hat⟩ := World.cells?_some hc
  obtain ⟨ys, m, _, hx, _, hyl, hf⟩ := DataW.trod_struct Try.underlying34 h
  match cs, hl with
  | [x0, x1], _ =>
    have h0 := hf 0 _ rfl
    have h1 := hf 1 _ rfl
    match ys, hyl with
    | [y0, y1], _ =>
      obtain ⟨i, e0, r0, w0⟩ := DataW.trod_int Try.underlying3 h0
      obtain ⟨c, e1, r1, w1⟩ := DataW.trod_int Try.underlying32 h1
      have g0 : [x0] = [.int .i64 i] := e0
      have g1 : [x1] = [.int .u64 c] := e1
      simp only [List.cons.injEq, and_true] at g0 g1
      subst g0 g1
      exact ⟨(i, c), ⟨i64_of_wf w0, word_of_wf w1⟩, hat 0 (by omega), hat 1 (by omega)⟩
/-- Cells that read as a row of pairs. -/
theorem open_row {H : Type} {enc : TypeId × Value → H} {W : World} {n : Nat} {cs : List Value} {d : DataW H} {pl : List MemPlace}
    (hf : DataW.trod enc Try.prog W 0 (fun _ => true) true n 22 cs = some (d, pl)) (hz : ∀ n ∈ DataW.weights Try.prog 22 d, n ≤ reachBytes) :
    ∃ A cap L, cs = [.slice A (List.length L) cap] ∧ Pairs W A L ∧ L.length ≤ 140737488351232 := by
  rcases Go.Deep.open_slice Try.underlying22 hf with ⟨hcs, hx⟩ | ⟨a, len, cap, m, n, D, Pl, hcs, _, hl, hm, hmm, hx, hi⟩
  · exact ⟨none, 0, [], hcs, Pairs.nil W, Nat.zero_le _⟩
  · simp only [if_true] at hmm
    obtain rfl : cap = m := hmm.symm
    simp only [Prod.mk.injEq] at hx
    obtain ⟨rfl, rfl⟩ := hx
    have hw : DataW.weights Try.prog 22 (.slice ((List.range len).map D) ((List.range (cap - len)).map fun j => D (len + j))) =
        (((List.range len).map D).length + ((List.range (cap - len)).map fun j => D (len + j)).length) * Try.prog.bytesOf 34 ::
        (DataW.weightsAll Try.prog 34 ((List.range len).map D) ++ DataW.weightsAll Try.prog 34 ((List.range (cap - len)).map fun j => D (len + j))) := by
      conv => lhs; unfold DataW.weights
      rw [Try.underlying22]
    have hlen : len ≤ 140737488351232 := by
      have := hz _ (by rw [hw]; exact List.mem_cons_self)
      rw [bytesPair] at this
      simp only [List.length_map, List.length_range, reachBytes] at this
      omega
    have hall : ∀ i, i < len → ∃ p : PairV, okP p ∧ W.cell? (a.add (i * 2)) = some (.int .i64 p.1) ∧ W.cell? (a.add (i * 2 + 1)) = some (.int .u64 p.2) := by
      intro i hi'
      obtain ⟨cs', hc, ht⟩ := hi i (by omega)
      rw [cellsPair] at hc
      obtain ⟨p, i1, c0, c1⟩ := open_pair hc ht
      rw [add_deep] at c0 c1
      exact ⟨p, i1, c0, c1⟩
    obtain ⟨f, hf'⟩ := Go.Deep.choose_lt hall
    refine ⟨some a, cap, (List.range len).map f, by rw [hcs]; simp, ⟨?_, ?_⟩, by simpa using hlen⟩
    · intro p hp
      obtain ⟨i, hi1, rfl⟩ := List.mem_map.1 hp
      exact (hf' i (List.mem_range.1 hi1)).1
    · intro i p hp
      have hil : i < len := by
        rcases Nat.lt_or_ge i len with h | h
        · exact h
        · rw [List.getElem?_eq_none (by simpa using h)] at hp; cases hp
      simp only [List.getElem?_map, List.getElem?_range hil, Option.map_some, Option.some.injEq] at hp
      subst hp
      obtain ⟨_, c0, c1⟩ := hf' i hil
      obtain ⟨b, off, spot⟩ := a
      have hspot : spot = none := by
        have z0 := (hf' 0 (by omega)).2.1
        simpa [Addr.add] using World.cell?_spot z0
      subst hspot
      have hb : b < W.heap.size := by
        have := World.block_lt_of_cell? W _ c0
        revert this; unfold Addr.add; split <;> simp
      refine ⟨b, off, rfl, hb, ?_, ?_⟩
      · rw [← add_flat]; exact c0
      · rw [Nat.add_assoc, ← add_flat]; exact c1

theorem open_pairs {H : Type} {enc : TypeId × Value → H} {W : World} {base : Nat} {v : Value} {d : DataW H} {p : List MemPlace}
    (hv : Value.okWide Try.prog W .any base 22 v) (h : DataW.Trod enc Try.prog W 0 (fun _ => true) true 22 v d p)
    (hz : ∀ n ∈ DataW.weights Try.prog 22 d, n ≤ reachBytes) :
    ∃ A cap L, v = .slice A (List.length L) cap ∧ Pairs W A L ∧ L.length ≤ 140737488351232 := by
  obtain ⟨a0, len, cap, rfl⟩ := okWide_slice Try.underlying22 hv
  obtain ⟨fuel, hf⟩ := h
  obtain ⟨A, cap', L, hcs, hP, hl⟩ := open_row hf hz
  simp [Value.cells] at hcs
  obtain ⟨rfl, rfl, rfl⟩ := hcs
  exact ⟨_, _, L, rfl, hP, hl⟩

end Go.Proofs.Ytjgaieicljnhkaa

namespace Go.Proofs.Ytjgaieicljnhkaa
set_option maxRecDepth 100000
set_option linter.unusedVariables false
set_option linter.unusedSimpArgs false
open Go.ChangeShapes Go.WideShapes Go.ChangeAt Go.RowKit Go.Joins

theorem pair_reads {H : Type} {enc : TypeId × Value → H} {a b : Int} (wa : (Lit.int .i64 a).wf = true) (wb : (Lit.int .u64 b).wf = true) (W' : World) (sp : Nat → Bool) :
    DataW.Trod enc Try.prog W' 0 sp true 34 (.agg #[.int .i64 a, .int .u64 b]) (.agg [.lit (.int .i64 a), .lit (.int .u64 b)]) [] :=
  shut_agg2 (y0 := (.lit (.int .i64 a), [])) (y1 := (.lit (.int .u64 b), [])) Try.underlying34 (by kernel_rfl) cellsPair ⟨1, by simp [DataW.trod, Try.underlying3, wa]⟩ ⟨1, by simp [DataW.trod, Try.underlying32, wb]⟩
theorem pair_opens {H : Type} {enc : TypeId × Value → H} {W : World} {r : Reach} {b0 : Nat} {sp : Nat → Bool} {v : Value} {d : DataW H} {p : List MemPlace} (hv : Value.okWide Try.prog W r b0 34 v) (h : DataW.Trod enc Try.prog W 0 sp true 34 v d p) :
    ∃ a b : Int, v = .agg #[.int .i64 a, .int .u64 b] ∧ d = .agg [.lit (.int .i64 a), .lit (.int .u64 b)] ∧ p = [] ∧ (Lit.int .i64 a).wf = true ∧ (Lit.int .u64 b).wf = true := by
  obtain ⟨c0, c1, y0, y1, m, rfl, rfl, rfl, hy0, hy1⟩ := open_agg2 Try.underlying34 (by kernel_rfl) cellsPair hv h
  obtain ⟨a, e0, rfl, wa⟩ := DataW.trod_int Try.underlying3 hy0
  obtain ⟨b, e1, rfl, wb⟩ := DataW.trod_int Try.underlying32 hy1
  simp at e0 e1
  subst e0 e1
  exact ⟨a, b, rfl, rfl, rfl, wa, wb⟩
end Go.Proofs.Ytjgaieicljnhkaa

/-
  Walks: layer 9's reference: end, keeps, Kept, Lost, Find.
-/
namespace Go.Proofs.Ytjgaieicljnhkaa
set_option linter.unusedVariables false
set_option linter.unusedSimpArgs false
open Go.RowKit

set_option maxRecDepth 100000 in
set_option maxHeartbeats 1000000 in
theorem rend_any (w : World) (M cap : Nat) (A : List PairV) (a : Option Addr) (e : Int) (hc : w.cell? ⟨M, 1, none⟩ = some (.slice a A.length cap)) (hP : Pairs w a A) (hne : A ≠ []) (hl : A.length ≤ 1000) (he : endP A = e) :
    Calls Try.prog 47 #[.pointer (some ⟨M, 0, none⟩)] w fun e' w' => e' = .returned (.int .i64 e) ∧ ∃ n, w' = w.drewN n := by
  have hpos : 0 < A.length := by cases A with
    | nil => exact absurd rfl hne
    | cons p r => simp
  obtain ⟨N, hN⟩ : ∃ N, A.length = N := ⟨_, rfl⟩
  obtain ⟨nn, hnn⟩ : ∃ nn, N - 1 = nn := ⟨_, rfl⟩
  obtain ⟨qx, qc, hx1⟩ : ∃ qx qc, A[nn]? = some (qx, qc) := ⟨A[nn].1, A[nn].2, List.getElem?_eq_getElem (by omega)⟩
  have h2 : qx = e := by rw [← he]; unfold endP lasP; rw [List.getLast?_eq_getElem?, hN, hnn, hx1]; rfl
  subst h2
  obtain ⟨g, off, rfl, hbl, d0, _⟩ := hP.at_ nn _ hx1
  simp only at d0
  rw [hN] at hc hpos hl
  have u1 : IntKind.i64.wrap ((N : Int) - 1) = (nn : Int) := by rw [IntKind.wrap_i64]; omega
  have u2 : (N : Int) - 1 = (nn : Int) := by omega
  have u3 : (nn : Int) < (N : Int) := by omega
  have u4 : (0 : Int) ≤ (nn : Int) := by omega
  have u5 : IntKind.i64.wrap (nn : Int) = (nn : Int) := by rw [IntKind.wrap_i64]; omega
  clear hP hne hN hnn hx1 hbl he hl
  go_enter Try.func47, Try.ntmps47
  go_wp2_with fail
  go_quiet (fail)
  go_wp2_with fail
  go_ret
  exact ⟨rfl, nq, rfl⟩

set_option maxRecDepth 100000 in
set_option maxHeartbeats 1000000 in
theorem rkeeps_any (w : World) (M cap : Nat) (m : Int) (A : List PairV) (a : Option Addr) (i : Int) (b : Bool) (h0 : w.cell? ⟨M, 0, none⟩ = some (.int .i64 m)) (hc : w.cell? ⟨M, 1, none⟩ = some (.slice a A.length cap)) (hP : Pairs w a A) (hne : A ≠ []) (hl : A.length ≤ 1000) (m0 : 0 ≤ m) (m1 : m ≤ 4096) (hi : I64 i) (hle : i ≤ endP A) (hb : decide (endP A - i < m) = b) :
    Calls Try.prog 35 #[.pointer (some ⟨M, 0, none⟩), .int .i64 i] w fun e' w' => e' = .returned (.bool b) ∧ ∃ n, w' = w.drewN n := by
  have he := end_i64 hP.ok
  have HE : Hid (∀ n, Calls Try.prog 47 #[.pointer (some ⟨M, 0, none⟩)] (w.drewN n) fun e' w' => e' = .returned (.int .i64 (endP A)) ∧ ∃ k, w' = (w.drewN n).drewN k) := Lib.hid (fun n => by
    have hb := below_drewN (Below.refl w.heap.size w) n
    exact rend_any _ M cap A a _ (cell_later hb hc) (hP.call hb) hne hl rfl)
  obtain ⟨e, hee⟩ : ∃ e, endP A = e := ⟨_, rfl⟩
  rw [hee] at he hle hb HE
  obtain ⟨e0, e1⟩ := he
  obtain ⟨i0, i1⟩ := hi
  obtain ⟨ue, hue⟩ : ∃ u, IntKind.u64.wrap e = u := ⟨_, rfl⟩
  obtain ⟨ui, hui⟩ : ∃ u, IntKind.u64.wrap i = u := ⟨_, rfl⟩
  have hsub : IntKind.u64.wrap (ue - ui) = e - i := by rw [← hue, ← hui, IntKind.wrap_u64, IntKind.wrap_u64, IntKind.wrap_u64]; omega
  have hm : IntKind.u64.wrap m = m := by rw [IntKind.wrap_u64]; omega
  have HB := Lib.hid hb
  clear hc hP hne hl hee hb
  go_enter Try.func35, Try.ntmps35
  go_wp2_with fail
  go_quiet ((go_at_call 47; exact Calls.quiet_of (HE.out _)))
  go_wp2_with fail
  go_ret
  exact ⟨by rw [← HB.out]; rfl, nq, rfl⟩

set_option maxRecDepth 100000 in
set_option maxHeartbeats 2000000 in
theorem rkept_of (w : World) (M : Nat) (m : Int) (a : Option Addr) (cap : Nat) (A : List PairV) (hP : Pairs w a A) (c0 : w.cell? ⟨M, 0, none⟩ = some (.int .i64 m)) (c1 : w.cell? ⟨M, 1, none⟩ = some (.slice a A.length cap)) (hg : GoodP A) (hl : A.length ≤ 1000) (m0 : 0 ≤ m) (m1 : m ≤ 4096) :
    Calls Try.prog 13 #[.pointer (some ⟨M, 0, none⟩)] w fun e' w' => ∃ u, e' = .returned u ∧ OwnP w' w.heap.size u (keepP m A) ∧ Below w.heap.size w w' := by
  have ho := hP.ok
  have HI := Lib.hid hP
  have HG := Lib.hid hg
  have HC0 := Lib.hid c0
  have HC1 := Lib.hid c1
  have HL := Lib.hid hl
  obtain ⟨x, hx⟩ : ∃ x, endP A - m = x := ⟨_, rfl⟩
  have HX := Lib.hid hx
  have HKP : Hid (keepP m A = highP A x) := Lib.hid (by unfold keepP; rw [hx])
  rw [HKP.out]
  clear hP hg ho c0 hx
  go_enter Try.func13, Try.ntmps13
  go_wp2_with fail
  go_loopw [3, 11] (fun s j wr => ∃ (k : Nat), k ≤ A.length ∧ j = .int .i64 k ∧ OwnP wr w.heap.size s (highP (A.take k) x) ∧ Below w.heap.size w wr) (fun _ j _ => A.length - (intOf j).toNat)
  case atStart => exact ⟨0, Nat.zero_le _, rfl, OwnP.nil _ _, Below.refl _ _⟩
  case round =>
    clear c1
    obtain ⟨k, hk, rfl, hown, hb2⟩ := hrel
    have hbs := hb2.size
    by_cases hlt : k < A.length
    · have kk : (k : Int) < A.length := by omega
      have hxk : A[k]? = some A[k] := List.getElem?_eq_getElem hlt
      generalize hit : A[k] = p at *
      obtain ⟨px, pc⟩ := p
      obtain ⟨b0, off, rfl, hbl, c0, c1⟩ := (HI.out.call hb2).at_ k _ hxk
      simp only at c0 c1
      have HS := Lib.hid (high_step hxk x)
      have HLL := Lib.hid (high_len A x k)
      have hok := HI.out.ok _ (List.mem_of_getElem? hxk)
      have hle := end_ge HG.out _ (List.mem_of_getElem? hxk)
      have hne : A ≠ [] := by intro h; rw [h] at hlt; exact absurd hlt (Nat.not_lt_zero _)
      simp only at HS hle
      have hba : Below w.heap.size w (wr.alloc (.cells #[.int .i64 px, .int .u64 pc] 34)) := hb2.alloc hbs _
      have HKS : Hid (∀ b, decide (x < px) = b → Calls Try.prog 35 #[.pointer (some ⟨M, 0, none⟩), .int .i64 px] (wr.alloc (.cells #[.int .i64 px, .int .u64 pc] 34)) fun e' w' => e' = .returned (.bool b) ∧ ∃ n, w' = (wr.alloc (.cells #[.int .i64 px, .int .u64 pc] 34)).drewN n) := Lib.hid (fun b hb =>
        rkeeps_any _ M cap m A _ px b (cell_later hba HC0.out) (cell_later hba HC1.out) (HI.out.call hba) hne HL.out m0 m1 hok.1 hle (by
          rw [← hb]; have := HX.out
          by_cases h : x < px
          · rw [decide_eq_true h, decide_eq_true (by omega)]
          · rw [decide_eq_false h, decide_eq_false (by omega)]))
      obtain ⟨⟨o1, o2⟩, o3, o4⟩ := hok
      have HBA := Lib.hid hba
      clear hxk hit hba hle hne
      by_cases hc : x < px
      · rw [if_pos hc] at HS
        have HK2 := Lib.hid (HKS.out true (decide_eq_true hc))
        obtain ⟨vA, vk, rfl⟩ := hown.form
        have HO := Lib.hid hown
        clear hown HKS
        go_wp2_with fail
        refine HK2.out.mono ?_
        rintro e' w2 ⟨rfl, n, rfl⟩
        have hb3 : Below w.heap.size w ((wr.alloc (.cells #[.int .i64 px, .int .u64 pc] 34)).drewN n) := below_drewN HBA.out n
        have hO3 : OwnP ((wr.alloc (.cells #[.int .i64 px, .int .u64 pc] 34)).drewN n) w.heap.size (.slice vA (highP (A.take k) x).length vk) (highP (A.take k) x) := (HO.out.alloc _).call (below_drewN (Below.refl _ _) n)
        obtain ⟨q0, q1⟩ : ((wr.alloc (.cells #[.int .i64 px, .int .u64 pc] 34)).drewN n).cell? ⟨wr.heap.size, 0, none⟩ = some (.int .i64 px) ∧ ((wr.alloc (.cells #[.int .i64 px, .int .u64 pc] 34)).drewN n).cell? ⟨wr.heap.size, 1, none⟩ = some (.int .u64 pc) := by
          have h := two_new9 wr (.int .i64 px) (.int .u64 pc) 34
          exact ⟨cell_later (below_drewN (Below.refl _ _) n) h.1, cell_later (below_drewN (Below.refl _ _) n) h.2⟩
        have hsz : ((wr.alloc (.cells #[.int .i64 px, .int .u64 pc] 34)).drewN n).heap.size = wr.heap.size + 1 := by
          show (wr.alloc _).heap.size = _; simp
        generalize (wr.alloc (.cells #[.int .i64 px, .int .u64 pc] 34)).drewN n = wY at *
        have HO3 := Lib.hid hO3
        have HB3 := Lib.hid hb3
        have HSZ := Lib.hid hsz
        clear hO3 hb3 hsz
        go_wp2_with (at_builtin; refine wpList_append_pair rfl _ _ rfl w.heap.size _ _ wY.heap.size (px, pc) rfl (HO3.out.alloc _) rfl ?c1 ?c2 ?c3 ?c4 ?_)
        case c3 => have := HLL.out; omega
        case c4 => have := HB3.out.size; simp; omega
        intro v' w1 hown' hgrow
        have hb4 := OwnP.below (HO3.out.alloc _) (HB3.out.alloc HB3.out.size _) hgrow (by have := HB3.out.size; simp; omega)
        rw [← HS.out] at hown'
        clear hgrow
        go_wp2_with fail
        go_roundw
        case rel => exact ⟨k + 1, by omega, by go_num, hown', hb4⟩
        case measure => simp [intOf]; omega
      · rw [if_neg hc, List.append_nil] at HS
        have HK2 := Lib.hid (HKS.out false (decide_eq_false hc))
        rw [← HS.out] at hown
        have HO := Lib.hid hown
        clear hown HKS
        go_wp2_with fail
        refine HK2.out.mono ?_
        rintro e' w2 ⟨rfl, n, rfl⟩
        go_wp2_with fail
        go_roundw
        case rel => exact ⟨k + 1, by omega, by go_num, (HO.out.alloc _).call (below_drewN (Below.refl _ _) n), below_drewN HBA.out n⟩
        case measure => simp [intOf]; omega
    · obtain rfl : k = A.length := by omega
      rw [List.take_length] at hown
      have kk : ¬ (A.length : Int) < A.length := by omega
      obtain ⟨vA, vk, rfl⟩ := hown.form
      have HO := Lib.hid hown
      clear hown
      go_wp2_with fail
      go_ret
      exact ⟨_, rfl, HO.out, hb2⟩

set_option maxRecDepth 100000 in
set_option maxHeartbeats 2000000 in
theorem rlost_of (w : World) (M : Nat) (m : Int) (a : Option Addr) (cap : Nat) (A : List PairV) (t : Int) (hP : Pairs w a A) (c0 : w.cell? ⟨M, 0, none⟩ = some (.int .i64 m)) (c1 : w.cell? ⟨M, 1, none⟩ = some (.slice a A.length cap)) (hg : GoodP A) (hl : A.length ≤ 1000) (m0 : 0 ≤ m) (m1 : m ≤ 4096) (hs : sumP A ≤ 9223372036854775807) (ht : sumP A - sumP (keepP m A) = t) :
    Calls Try.prog 17 #[.pointer (some ⟨M, 0, none⟩)] w fun e' w' => e' = .returned (.int .u64 t) ∧ Below w.heap.size w w' := by
  have ho := hP.ok
  have HI := Lib.hid hP
  have HG := Lib.hid hg
  have HC0 := Lib.hid c0
  have HC1 := Lib.hid c1
  have HL := Lib.hid hl
  obtain ⟨x, hx⟩ : ∃ x, endP A - m = x := ⟨_, rfl⟩
  have HX := Lib.hid hx
  have HKP : Hid (sumP A - sumP (highP A x) = t) := Lib.hid (by rw [← ht]; unfold keepP; rw [hx])
  have HTK : Hid (∀ k, 0 ≤ sumP (A.take k) - sumP (highP (A.take k) x) ∧ sumP (A.take k) - sumP (highP (A.take k) x) ≤ 9223372036854775807) := Lib.hid (fun k => by
    have h1 := sumP_take (L := A) k (ok_pos ho)
    have h2 := sumP_filter (fun p : PairV => decide (x < p.1)) (L := A.take k) (fun p hp => ok_pos ho p (List.mem_of_mem_take hp))
    have h3 : sumP (highP (A.take k) x) = sumP ((A.take k).filter fun p : PairV => decide (x < p.1)) := rfl
    omega)
  clear hP hg ho c0 hx ht
  go_enter Try.func17, Try.ntmps17
  go_wp2_with fail
  go_loopw [3, 11] (fun s j wr => ∃ (k : Nat) (n : Int), k ≤ A.length ∧ j = .int .i64 k ∧ s = .int .u64 n ∧ n = sumP (A.take k) - sumP (highP (A.take k) x) ∧ Below w.heap.size w wr) (fun _ j _ => A.length - (intOf j).toNat)
  case atStart => exact ⟨0, 0, Nat.zero_le _, rfl, rfl, rfl, Below.refl _ _⟩
  case round =>
    clear c1
    obtain ⟨k, n, hk, rfl, rfl, hn, hb2⟩ := hrel
    have hbs := hb2.size
    have HN := Lib.hid hn
    by_cases hlt : k < A.length
    · have kk : (k : Int) < A.length := by omega
      have hxk : A[k]? = some A[k] := List.getElem?_eq_getElem hlt
      generalize hit : A[k] = p at *
      obtain ⟨px, pc⟩ := p
      obtain ⟨b0, off, rfl, hbl, c0, c1⟩ := (HI.out.call hb2).at_ k _ hxk
      simp only at c0 c1
      have HS := Lib.hid (high_step hxk x)
      have HSS : Hid (sumP (A.take (k + 1)) = sumP (A.take k) + pc) := Lib.hid (by rw [take_snocP hxk, sumP_app, sumP_one])
      have hok := HI.out.ok _ (List.mem_of_getElem? hxk)
      have hle := end_ge HG.out _ (List.mem_of_getElem? hxk)
      have hne : A ≠ [] := by intro h; rw [h] at hlt; exact absurd hlt (Nat.not_lt_zero _)
      simp only at HS hle
      have hba : Below w.heap.size w (wr.alloc (.cells #[.int .i64 px, .int .u64 pc] 34)) := hb2.alloc hbs _
      have HKS : Hid (∀ b, decide (x < px) = b → Calls Try.prog 35 #[.pointer (some ⟨M, 0, none⟩), .int .i64 px] (wr.alloc (.cells #[.int .i64 px, .int .u64 pc] 34)) fun e' w' => e' = .returned (.bool b) ∧ ∃ n, w' = (wr.alloc (.cells #[.int .i64 px, .int .u64 pc] 34)).drewN n) := Lib.hid (fun b hb =>
        rkeeps_any _ M cap m A _ px b (cell_later hba HC0.out) (cell_later hba HC1.out) (HI.out.call hba) hne HL.out m0 m1 hok.1 hle (by
          rw [← hb]; have := HX.out
          by_cases h : x < px
          · rw [decide_eq_true h, decide_eq_true (by omega)]
          · rw [decide_eq_false h, decide_eq_false (by omega)]))
      obtain ⟨⟨o1, o2⟩, o3, o4⟩ := hok
      simp only at o3 o4
      have HBA := Lib.hid hba
      have t0 := HTK.out k
      have t1 := HTK.out (k + 1)
      have hnn : n = sumP (A.take k) - sumP (highP (A.take k) x) := HN.out
      clear hxk hit hba hle hne hn
      by_cases hc : x < px
      · rw [if_pos hc] at HS
        have HK2 := Lib.hid (HKS.out true (decide_eq_true hc))
        have HE : Hid (n = sumP (A.take (k + 1)) - sumP (highP (A.take (k + 1)) x)) := Lib.hid (by rw [HS.out, HSS.out, sumP_app, sumP_one]; omega)
        clear HKS t0 t1 hnn
        go_wp2_with fail
        refine HK2.out.mono ?_
        rintro e' w2 ⟨rfl, d, rfl⟩
        go_wp2_with fail
        go_roundw
        case rel => exact ⟨k + 1, n, by omega, by go_num, rfl, HE.out, below_drewN HBA.out d⟩
        case measure => simp [intOf]; omega
      · rw [if_neg hc, List.append_nil] at HS
        have HK2 := Lib.hid (HKS.out false (decide_eq_false hc))
        rw [HS.out, HSS.out] at t1
        have hw : IntKind.u64.wrap (n + pc) = n + pc := by rw [IntKind.wrap_u64]; omega
        have HE : Hid (n + pc = sumP (A.take (k + 1)) - sumP (highP (A.take (k + 1)) x)) := Lib.hid (by rw [HS.out, HSS.out]; omega)
        have q0 : ((wr.alloc (.cells #[.int .i64 px, .int .u64 pc] 34))).cell? ⟨wr.heap.size, 1, none⟩ = some (.int .u64 pc) := (two_new9 wr _ _ _).2
        clear HKS t0 t1 hnn
        go_wp2_with fail
        refine HK2.out.mono ?_
        rintro e' w2 ⟨rfl, d, rfl⟩
        have q1 := cell_later (below_drewN (Below.refl (wr.alloc (.cells #[.int .i64 px, .int .u64 pc] 34)).heap.size (wr.alloc (.cells #[.int .i64 px, .int .u64 pc] 34))) d) q0
        go_wp2_with fail
        go_roundw
        case rel => exact ⟨k + 1, n + pc, by omega, by go_num, by first | rfl | rw [hw], HE.out, below_drewN HBA.out d⟩
        case measure => simp [intOf]; omega
    · obtain rfl : k = A.length := by omega
      have kk : ¬ (A.length : Int) < A.length := by omega
      have HE : Hid (n = t) := Lib.hid (by rw [HN.out, List.take_length]; exact HKP.out)
      clear hn
      go_wp2_with fail
      go_ret
      exact ⟨ret_int HE.out, hb2⟩

theorem rkept_any (w : World) (M : Nat) (m : Int) (v : Value) (A : List PairV) (h : RefS w M m v A) (hg : GoodP A) (ho : ∀ p, p ∈ A → okP p) (hl : A.length ≤ 1000) (m0 : 0 ≤ m) (m1 : m ≤ 4096) :
    Calls Try.prog 13 #[.pointer (some ⟨M, 0, none⟩)] w fun e' w' => ∃ u, e' = .returned u ∧ OwnP w' w.heap.size u (keepP m A) ∧ Below w.heap.size w w' := by
  obtain ⟨a, cap, rfl, hP, c0, c1⟩ := h.row ho
  exact rkept_of w M m a cap A hP c0 c1 hg hl m0 m1
theorem rlost_any (w : World) (M : Nat) (m : Int) (v : Value) (A : List PairV) (t : Int) (h : RefS w M m v A) (hg : GoodP A) (ho : ∀ p, p ∈ A → okP p) (hl : A.length ≤ 1000) (m0 : 0 ≤ m) (m1 : m ≤ 4096) (hs : sumP A ≤ 9223372036854775807) (ht : sumP A - sumP (keepP m A) = t) :
    Calls Try.prog 17 #[.pointer (some ⟨M, 0, none⟩)] w fun e' w' => e' = .returned (.int .u64 t) ∧ Below w.heap.size w w' := by
  obtain ⟨a, cap, rfl, hP, c0, c1⟩ := h.row ho
  exact rlost_of w M m a cap A t hP c0 c1 hg hl m0 m1 hs ht

set_option maxRecDepth 100000 in
set_option maxHeartbeats 2000000 in
theorem rlfind_any (w : World) (M : Nat) (m : Int) (v : Value) (A : List PairV) (t x : Int) (fb : Bool) (h : RefS w M m v A) (hg : GoodP A) (ho : ∀ p, p ∈ A → okP p) (hl : A.length ≤ 1000) (m0 : 0 ≤ m) (m1 : m ≤ 4096) (hs : sumP A < 18446744073709551616) (ht : Word t)
    (hx : (match findP A t with | none => none | some x => if endP A - x < m then some x else none).getD 0 = x) (hb : (match findP A t with | none => none | some x => if endP A - x < m then some x else none).isSome = fb) :
    Calls Try.prog 25 #[.pointer (some ⟨M, 0, none⟩), .int .u64 t] w fun e' w' => e' = .returned (.tuple #[.int .i64 x, .bool fb]) ∧ Below w.heap.size w w' := by
  obtain ⟨a, cap, rfl, hP, c0, c1⟩ := h.row ho
  have HC0 := Lib.hid c0
  have HC1 := Lib.hid c1
  have HI := Lib.hid hP
  have HL := Lib.hid hl
  have hseek : ∀ (L : List PairV) (s x : Int), seekP t s L = some x → ∃ p, p ∈ L ∧ p.1 = x := by
    intro L
    induction L with
    | nil => intro s x h; cases h
    | cons p r ih =>
      intro s x h
      rw [seek_cons] at h
      split at h
      · exact ⟨p, by simp, Option.some.inj h⟩
      · obtain ⟨q, hq, e⟩ := ih _ x h
        exact ⟨q, List.mem_cons_of_mem _ hq, e⟩
  cases hf : findP A t with
  | none =>
    rw [hf] at hx hb
    have h1 : x = 0 := hx.symm
    have h2 : fb = false := hb.symm
    subst h1 h2
    have HF := Lib.hid (rfind_any w a cap A t 0 false hP hl ht hs (by rw [hf]; rfl) (by rw [hf]; rfl))
    clear h hP hg ho hl hs hx hb hf hseek c0
    go_enter Try.func25, Try.ntmps25
    go_wp2_with fail
    refine HF.out.mono ?_
    rintro e' w2 ⟨rfl, b2⟩
    go_wp2_with fail
    go_ret2
    exact ⟨rfl, b2⟩
  | some y =>
    rw [hf] at hx hb
    obtain ⟨p, hp, hpy⟩ : ∃ p, p ∈ A ∧ p.1 = y := by
      unfold findP at hf
      split at hf
      · exact hseek A 0 y hf
      · cases hf
    have hne : A ≠ [] := by rintro rfl; cases hp
    have hyi : I64 y := by rw [← hpy]; exact (ho p hp).1
    have hyl : y ≤ endP A := by rw [← hpy]; exact end_ge hg p hp
    have HF := Lib.hid (rfind_any w a cap A t y true hP hl ht hs (by rw [hf]; rfl) (by rw [hf]; rfl))
    have HK : Hid (∀ w', Below w.heap.size w w' → ∀ b, decide (endP A - y < m) = b → Calls Try.prog 35 #[.pointer (some ⟨M, 0, none⟩), .int .i64 y] w' fun e' w'' => e' = .returned (.bool b) ∧ ∃ n, w'' = w'.drewN n) := Lib.hid (fun w' hw b hb =>
      rkeeps_any w' M cap m A _ y b (cell_later hw HC0.out) (cell_later hw HC1.out) (HI.out.call hw) hne HL.out m0 m1 hyi hyl hb)
    by_cases hc : endP A - y < m
    · have h1 : x = y := by rw [← hx]; show (if endP A - y < m then some y else none).getD 0 = y; rw [if_pos hc]; rfl
      have h2 : fb = true := by rw [← hb]; show (if endP A - y < m then some y else none).isSome = true; rw [if_pos hc]; rfl
      subst h1 h2
      have HK2 := Lib.hid (fun w' hw => HK.out w' hw true (decide_eq_true hc))
      clear h hP hg ho hl hs hx hb hf hseek c0 hp hpy hne hyi hyl HK hc
      go_enter Try.func25, Try.ntmps25
      go_wp2_with fail
      refine HF.out.mono ?_
      rintro e' w2 ⟨rfl, b2⟩
      go_wp2_with fail
      refine (HK2.out _ b2).mono ?_
      rintro e' w3 ⟨rfl, n, rfl⟩
      go_wp2_with fail
      go_ret2
      exact ⟨rfl, below_drewN b2 n⟩
    · have h1 : x = 0 := by rw [← hx]; show (if endP A - y < m then some y else none).getD 0 = 0; rw [if_neg hc]; rfl
      have h2 : fb = false := by rw [← hb]; show (if endP A - y < m then some y else none).isSome = false; rw [if_neg hc]; rfl
      subst h1 h2
      have HK2 := Lib.hid (fun w' hw => HK.out w' hw false (decide_eq_false hc))
      clear h hP hg ho hl hs hx hb hf hseek c0 hp hpy hne hyi hyl HK hc
      go_enter Try.func25, Try.ntmps25
      go_wp2_with fail
      refine HF.out.mono ?_
      rintro e' w2 ⟨rfl, b2⟩
      go_wp2_with fail
      refine (HK2.out _ b2).mono ?_
      rintro e' w3 ⟨rfl, n, rfl⟩
      go_wp2_with fail
      go_ret2
      exact ⟨rfl, below_drewN b2 n⟩
end Go.Proofs.Ytjgaieicljnhkaa

/-
  The laws of lowcap: alive, great, build.
-/
namespace Go.Proofs.Ytjgaieicljnhkaa
set_option linter.unusedVariables false
set_option linter.unusedSimpArgs false
open Go.RowKit

theorem lw_alive : lwErr 0 1 = 0 ∧ lwRow 2 [] 0 5 1 = [(5, 1)] ∧ lwSum 0 1 = 1 ∧ lwErr 1 1 = 0 ∧ lwRow 2 [(5, 1)] 1 3 1 = [(5, 1)] ∧ lwSum 1 1 = 2 ∧ (2 : Int) - sumP [(5, 1)] = 1 ∧ countP [(5, 1)] 5 = 1 := by decide

set_option maxRecDepth 100000 in
set_option maxHeartbeats 1000000 in
theorem lalive_any {Lw : World → Nat → (Nat → Prop) → Int → List PairV → Int → Prop} (D : LowDoes Lw) (w : World) :
    Calls Try.prog 8 #[] w fun e w' => e = .returned (.bool true) ∧ Below w.heap.size w w' := by
  have HD := Lib.hid D
  obtain ⟨e1, r1, s1, e2, r2, s2, l2, c2⟩ := lw_alive
  have E1 := Lib.hid e1
  have R1 := Lib.hid r1
  have S1 := Lib.hid s1
  have E2 := Lib.hid e2
  have R2 := Lib.hid r2
  have S2 := Lib.hid s2
  have L2 := Lib.hid l2
  have C2 := Lib.hid c2
  clear D e1 r1 s1 e2 r2 s2 l2 c2
  go_enter Try.func8, Try.ntmps8
  go_wp2_with fail
  refine (HD.out.new _ 2 (by decide) (by decide)).mono ?_
  rintro e w1 ⟨B, S, rfl, h1, hs1, b1⟩
  have H1 := Lib.hid h1
  have HS1 := Lib.hid hs1
  have z1 := b1.size
  clear h1 hs1
  go_wp2_with fail
  refine (HD.out.add _ B S 2 [] 0 5 1 H1.out (by decide) ⟨by decide, by decide⟩ ⟨by decide, by decide⟩).mono ?_
  rintro e w2 ⟨S', rfl, h2, k2, hs2⟩
  rw [E1.out]
  rw [R1.out, S1.out] at h2
  have b2 := k2.below b1 z1 HS1.out
  have H2 := Lib.hid h2
  have HS2 : Hid (∀ k, S' k → w.heap.size ≤ k) := Lib.hid fun k hk => by rcases hs2 k hk with h | h; exact HS1.out k h; omega
  have z2 := b2.size
  clear h2 k2 hs2 b1
  go_wp2_with fail
  refine (HD.out.add _ B S' 2 [(5, 1)] 1 3 1 H2.out (by decide) ⟨by decide, by decide⟩ ⟨by decide, by decide⟩).mono ?_
  rintro e w3 ⟨S3, rfl, h3, k3, hs3⟩
  rw [E2.out]
  rw [R2.out, S2.out] at h3
  have b3 := k3.below b2 z2 HS2.out
  have H3 := Lib.hid h3
  have z3 := b3.size
  clear h3 k3 hs3 b2
  go_wp2_with fail
  refine (HD.out.lost _ B S3 2 [(5, 1)] 2 H3.out).mono ?_
  rintro e w4 ⟨rfl, b4⟩
  rw [L2.out]
  have H4 := Lib.hid (HD.out.call H3.out b4)
  have b5 := b3.trans (b4.mono z3)
  have z5 := b5.size
  clear b4 b3
  go_wp2_with fail
  refine (HD.out.total _ B S3 2 [(5, 1)] 2 H4.out (by decide)).mono ?_
  rintro e w6 ⟨rfl, b6⟩
  have H6 := Lib.hid (HD.out.call H4.out b6)
  have b7 := b5.trans (b6.mono z5)
  have z7 := b7.size
  clear b6 b5
  go_wp2_with fail
  refine (HD.out.at_ _ B S3 2 [(5, 1)] 2 5 H6.out (by decide) ⟨by decide, by decide⟩).mono ?_
  rintro e w8 ⟨rfl, b8⟩
  rw [C2.out]
  have b9 := b7.trans (b8.mono z7)
  clear b7 b8
  go_wp2_with fail
  go_ret
  exact ⟨rfl, b9⟩

/-- More than is played. -/
def fineP (p : PairV) : Bool := decide (0 < p.2) && decide (p.2 ≤ 1125899906842624)
def grtB (m : Int) (L : List PairV) : Bool := !(L.all fineP) || decide (60 < L.length) || decide (m < 1) || decide (4096 < m)
def FineTo (L : List PairV) (k : Nat) : Prop := (L.take k).all fineP = true
theorem fine_step {L : List PairV} {k : Nat} {p : PairV} (h : FineTo L k) (hk : L[k]? = some p) (hp : fineP p = true) : FineTo L (k + 1) := by
  unfold FineTo at *
  rw [take_snocP hk, List.all_append, h]
  simp [hp]
theorem fine_not {L : List PairV} {k : Nat} {p : PairV} (hk : L[k]? = some p) (hp : fineP p = false) : L.all fineP = false := by
  cases h : L.all fineP with
  | false => rfl
  | true => have := List.all_eq_true.1 h p (List.mem_of_getElem? hk); rw [hp] at this; cases this
structure Played (m : Int) (L : List PairV) : Prop where
  each : ∀ p, p ∈ L → 0 < p.2 ∧ p.2 ≤ 1125899906842624
  len : L.length ≤ 60
  m1 : 1 ≤ m
  m2 : m ≤ 4096
theorem grt_false {m : Int} {L : List PairV} : grtB m L = false ↔ Played m L := by
  unfold grtB
  simp only [Bool.or_eq_false_iff, Bool.not_eq_false', decide_eq_false_iff_not, List.all_eq_true]
  constructor
  · rintro ⟨⟨⟨h1, h2⟩, h3⟩, h4⟩
    refine ⟨fun p hp => ?_, by omega, by omega, by omega⟩
    have := h1 p hp
    unfold fineP at this
    simp only [Bool.and_eq_true, decide_eq_true_eq] at this
    exact this
  · rintro ⟨h1, h2, h3, h4⟩
    refine ⟨⟨⟨fun p hp => ?_, by omega⟩, by omega⟩, by omega⟩
    unfold fineP
    simp only [Bool.and_eq_true, decide_eq_true_eq]
    exact h1 p hp

set_option maxRecDepth 100000 in
set_option maxHeartbeats 2000000 in
theorem grt_any (w : World) (m : Int) (A : Option Addr) (cap : Nat) (L : List PairV) (b : Bool) (h : Pairs w A L) (hl : L.length ≤ 140737488351232) (hm : I64 m) (hb : grtB m L = b) :
    Calls Try.prog 9 #[.int .i64 m, .slice A L.length cap] w fun e w' => e = .returned (.bool b) ∧ Below w.heap.size w w' := by
  have HP := Lib.hid h
  have HB := Lib.hid hb
  obtain ⟨m0, m1⟩ := hm
  clear h hb
  go_enter Try.func9, Try.ntmps9
  go_wp2_with fail
  go_loopw [9] (fun j wr => ∃ (k : Nat), k ≤ L.length ∧ j = .int .i64 k ∧ FineTo L k ∧ Below w.heap.size w wr) (fun j _ => L.length - (intOf j).toNat)
  case atStart => exact ⟨0, Nat.zero_le _, rfl, rfl, Below.refl _ _⟩
  case round =>
    obtain ⟨k, hk, rfl, hf, hb2⟩ := hrel
    have hbs := hb2.size
    have HF := Lib.hid hf
    clear hf
    by_cases hlt : k < L.length
    · have kk : (k : Int) < L.length := by omega
      have hxk : L[k]? = some L[k] := List.getElem?_eq_getElem hlt
      generalize hit : L[k] = x at *
      obtain ⟨xi, xc⟩ := x
      obtain ⟨b1, off, rfl, hbl, c0, c1⟩ := (HP.out.call hb2).at_ k _ hxk
      simp only at c0 c1
      have hok := HP.out.ok _ (List.mem_of_getElem? hxk)
      obtain ⟨⟨o1, o2⟩, o3, o4⟩ := hok
      simp only at o1 o2 o3 o4
      have HXK := Lib.hid hxk
      have hba := hb2.alloc hbs (.cells #[.int .i64 xi, .int .u64 xc] 34)
      clear hxk hit
      by_cases h1 : 1125899906842624 < xc
      · have HN : Hid (true = b) := Lib.hid (by
          rw [← HB.out]; unfold grtB
          rw [fine_not HXK.out (by unfold fineP; simp only []; rw [decide_eq_false (show ¬ xc ≤ 1125899906842624 by omega), Bool.and_false])]; simp)
        go_wp2_with fail
        go_ret
        exact ⟨by rw [← HN.out]; rfl, hba⟩
      · by_cases h2 : xc = 0
        · have HN : Hid (true = b) := Lib.hid (by
            rw [← HB.out]; unfold grtB
            rw [fine_not HXK.out (by unfold fineP; simp only []; rw [decide_eq_false (show ¬ 0 < xc by omega), Bool.false_and])]; simp)
          subst h2
          go_wp2_with fail
          go_ret
          exact ⟨by rw [← HN.out]; rfl, hba⟩
        · have h3 : (xc == 0) = false := by simp [h2]
          have HN := Lib.hid (fine_step HF.out HXK.out (by unfold fineP; simp only []; rw [decide_eq_true (show 0 < xc by omega), decide_eq_true (show xc ≤ 1125899906842624 by omega)]; rfl))
          go_wp2_with fail
          go_roundw
          case rel => exact ⟨k + 1, by omega, by go_num, HN.out, hba⟩
          case measure => simp [intOf]; omega
    · obtain rfl : k = L.length := by omega
      have kk : ¬ (L.length : Int) < L.length := by omega
      have hf : L.all fineP = true := by have := HF.out; unfold FineTo at this; rwa [List.take_length] at this
      have hbb : (decide (60 < L.length) || decide (m < 1) || decide (4096 < m)) = b := by
        rw [← HB.out]; unfold grtB; rw [hf]; simp
      have HBB := Lib.hid hbb
      clear hf hbb
      by_cases g1 : 60 < L.length
      · have g1' : (60 : Int) < L.length := by omega
        have E : Hid (true = b) := Lib.hid (by rw [← HBB.out, decide_eq_true g1]; simp)
        go_wp2_with fail
        go_ret
        exact ⟨by rw [← E.out]; rfl, hb2⟩
      · have g1' : ¬ (60 : Int) < L.length := by omega
        by_cases g2 : m < 1
        · have E : Hid (true = b) := Lib.hid (by rw [← HBB.out, decide_eq_true g2]; simp)
          go_wp2_with fail
          go_ret
          exact ⟨by rw [← E.out]; rfl, hb2⟩
        · have E : Hid (decide (4096 < m) = b) := Lib.hid (by rw [← HBB.out, decide_eq_false g1, decide_eq_false g2]; simp)
          go_wp2_with fail
          go_ret
          exact ⟨by rw [← E.out]; rfl, hb2⟩

/-- All that was added so far. -/
structure Sum50 (A : List PairV) (k : Nat) : Prop where
  good : GoodP A
  ok : ∀ p, p ∈ A → okP p
  len : A.length ≤ k
  sum : sumP A ≤ k * 1125899906842624
theorem Sum50.nil : Sum50 [] 0 := ⟨good_nil, fun p h => (by cases h), Nat.le_refl _, Int.le_refl _⟩
theorem Sum50.add {A : List PairV} {k : Nat} (h : Sum50 A k) {p : PairV} (hp : okP p) (h0 : 0 < p.2) (hc : p.2 ≤ 1125899906842624) (hk : k ≤ 1000) : Sum50 (addP A p.1 p.2) (k + 1) ∧ sumP (addP A p.1 p.2) = sumP A + p.2 := by
  have h1 := count_le_sum p.1 (ok_pos h.ok)
  have h2 := h.sum
  have hs := add_sum (L := A) (i := p.1) (c := p.2) (by omega)
  exact ⟨⟨add_good h.good (by omega), add_ok h.ok hp.1 (by omega), Nat.le_trans (add_len _ _ _) (by have := h.len; omega), by rw [hs]; push_cast; omega⟩, hs⟩
/-- A lowcap and all that was added to it, side by side. -/
structure SideL (Lw : World → Nat → (Nat → Prop) → Int → List PairV → Int → Prop) (base : Nat) (w : World) (B : Nat) (S : Nat → Prop) (m : Int) (A : List PairV) (M : Nat) (v : Value) : Prop where
  st : Lw w B S m (keepP m A) (sumP A)
  rf : RefS w M m v A
  above : ∀ x, S x → base ≤ x
  apart : ∀ x, S x → x ≠ M ∧ v.ownBlock ≠ some x
  mab : base ≤ M
theorem SideL.call {Lw : World → Nat → (Nat → Prop) → Int → List PairV → Int → Prop} (D : LowDoes Lw) {base : Nat} {w w' : World} {B : Nat} {S : Nat → Prop} {m : Int} {A : List PairV} {M : Nat} {v : Value} (h : SideL Lw base w B S m A M v) (hb : Below w.heap.size w w') : SideL Lw base w' B S m A M v :=
  ⟨D.call h.st hb, h.rf.call hb, h.above, h.apart, h.mab⟩
theorem SideL.past {Lw : World → Nat → (Nat → Prop) → Int → List PairV → Int → Prop} {base : Nat} {w w3 : World} {B : Nat} {S : Nat → Prop} {m : Int} {A : List PairV} {M : Nat} {v : Value} (h : SideL Lw base w B S m A M v) (k3 : Keeps S w w3) : RefS w3 M m v A :=
  h.rf.past k3 (fun hx => (h.apart _ hx).1 rfl) (fun g hg hx => (h.apart g hx).2 hg)
/-- .. behind an addition to both. -/
theorem SideL.step {Lw : World → Nat → (Nat → Prop) → Int → List PairV → Int → Prop} (D : LowDoes Lw) {base : Nat} {w w3 wm : World} {B : Nat} {S S3 : Nat → Prop} {m : Int} {A A' : List PairV} {M : Nat} {v v4 : Value} (h : SideL Lw base w B S m A M v)
    (h3 : Lw w3 B S3 m (keepP m A') (sumP A')) (k3 : Keeps S w w3) (hs3 : ∀ k, S3 k → S k ∨ w.heap.size ≤ k) (hbase : base ≤ w.heap.size) (hm : Below w3.heap.size w3 wm) (ho : OwnP wm w3.heap.size v4 A') : SideL Lw base (wm.setCell ⟨M, 1, none⟩ v4) B S3 m A' M v4 := by
  have hM := h.rf.lt
  have z3 := k3.size
  have hlt3 := D.lt _ _ _ _ _ _ h3
  have hr := h.past k3
  have hS3 : ∀ x, S3 x → base ≤ x ∧ x ≠ M := fun x hx => by
    rcases hs3 x hx with a | a
    · exact ⟨h.above x a, (h.apart x a).1⟩
    · exact ⟨by omega, by omega⟩
  obtain ⟨⟨v', hr', hv'⟩, _⟩ := Done8.put hr hm ho
  have hg := grown_setCell wm M 1 v4
  have hc : RefS (wm.setCell ⟨M, 1, none⟩ v4) M m v4 A' := ⟨(hr.1.call hm).put1 v4, own_set8 (own_mono8 ho (by omega)) (by omega) _⟩
  refine ⟨D.keep _ _ _ _ _ _ _ (D.call h3 hm) fun x hx => hg.block x (by have := hlt3 x hx; have := hm.size; omega) (fun e => (hS3 x hx).2 (Option.some.inj e)), hc, fun x hx => (hS3 x hx).1, fun x hx => ⟨(hS3 x hx).2, fun e => ?_⟩, h.mab⟩
  have := (ho.lt x e).1
  have := hlt3 x hx
  omega

set_option maxRecDepth 100000 in
set_option maxHeartbeats 4000000 in
theorem build_any {Lw : World → Nat → (Nat → Prop) → Int → List PairV → Int → Prop} (D : LowDoes Lw) (w : World) (m : Int) (A : Option Addr) (cap : Nat) (L : List PairV) (h : Pairs w A L) (hp : ∀ p, p ∈ L → 0 < p.2 ∧ p.2 ≤ 1125899906842624) (hl : L.length ≤ 120) (m1 : 1 ≤ m) (m2 : m ≤ 4096) :
    Calls Try.prog 23 #[.int .i64 m, .slice A L.length cap] w fun e w' => ∃ B S M v, e = .returned (.tuple #[.pointer (some ⟨B, 0, none⟩), .pointer (some ⟨M, 0, none⟩)]) ∧ SideL Lw w.heap.size w' B S m (foldP L) M v ∧ Sum50 (foldP L) L.length ∧ Below w.heap.size w w' := by
  have HD := Lib.hid D
  have HP := Lib.hid h
  have HE := Lib.hid hp
  have HL := Lib.hid hl
  clear D h hp
  go_enter Try.func23, Try.ntmps23
  go_wp2_with fail
  refine (HD.out.new _ m m1 m2).mono ?_
  rintro e w1 ⟨B, S, rfl, h1, hs1, b1⟩
  obtain ⟨M, hM⟩ : ∃ M, w1.heap.size = M := ⟨_, rfl⟩
  have hlt1 := HD.out.lt _ _ _ _ _ _ h1
  have hbm : Below w1.heap.size w1 (w1.alloc (.cells #[.int .i64 m, .slice none 0 0] 31)) := (Below.refl _ _).alloc (Nat.le_refl _) _
  have HSD : Hid (SideL Lw w.heap.size (w1.alloc (.cells #[.int .i64 m, .slice none 0 0] 31)) B S m [] M (.slice none 0 0)) := Lib.hid
    ⟨HD.out.call h1 hbm, by rw [← hM]; exact RefS.mk_new w1 m _, hs1, fun x hx => ⟨by have := hlt1 x hx; omega, by simp [Value.ownBlock]⟩, by rw [← hM]; exact b1.size⟩
  have hbb := b1.alloc b1.size (.cells #[.int .i64 m, .slice none 0 0] 31)
  clear h1 hs1 b1 hlt1 hbm
  go_wp2_with fail
  clear hM
  go_loopg [21] L.length (fun g j wr => ∃ (k : Nat) (S' : Nat → Prop) (v : Value) (R : List PairV), k ≤ L.length ∧ g = L.length - k ∧ j = .int .i64 k ∧ R = foldP (L.take k) ∧ SideL Lw w.heap.size wr B S' m R M v ∧ Sum50 R k ∧ Below w.heap.size w wr)
  case atStart => exact ⟨0, S, _, [], Nat.zero_le _, rfl, rfl, rfl, HSD.out, Sum50.nil, hbb⟩
  case round =>
    clear hbb HSD
    obtain ⟨k, S', v, R, hk, rfl, rfl, hR, hsd, hsum, hb2⟩ := hrel
    have hbs := hb2.size
    have HSD := Lib.hid hsd
    have HSM := Lib.hid hsum
    have HRR := Lib.hid hR
    clear hsd hsum hR
    by_cases hlt : k < L.length
    · have kk : (k : Int) < L.length := by omega
      have hxk : L[k]? = some L[k] := List.getElem?_eq_getElem hlt
      generalize hit : L[k] = x at *
      obtain ⟨xi, xc⟩ := x
      obtain ⟨b1, off, rfl, hbl, c0, c1⟩ := (HP.out.call hb2).at_ k _ hxk
      simp only at c0 c1
      have hok := HP.out.ok _ (List.mem_of_getElem? hxk)
      have hfe := HE.out _ (List.mem_of_getElem? hxk)
      have HOK := Lib.hid hok
      obtain ⟨hs50, hsadd⟩ := HSM.out.add hok hfe.1 hfe.2 (by omega)
      simp only at hs50 hsadd hfe
      have hRk : addP R xi xc = foldP (L.take (k + 1)) := by rw [take_snocP hxk, fold_snoc, ← HRR.out]
      have HRK := Lib.hid hRk
      have HS50 := Lib.hid hs50
      have HSA := Lib.hid hsadd
      obtain ⟨⟨o1, o2⟩, o3, o4⟩ := hok
      simp only at o1 o2 o3 o4
      have hba := hb2.alloc hbs (.cells #[.int .i64 xi, .int .u64 xc] 34)
      have HSDA := Lib.hid (SideL.call HD.out HSD.out ((Below.refl _ _).alloc (Nat.le_refl _) (.cells #[.int .i64 xi, .int .u64 xc] 34)))
      have hz : lwErr (sumP R) xc = 0 := by
        have h3 := HSM.out.sum
        unfold lwErr; rw [if_neg (by omega), if_neg (by omega)]
      have hcn := count_le_sum xi (ok_pos HSM.out.ok)
      have hle : (keepP m R).length ≤ 700 := Nat.le_trans (keep_le m R) (by have := HSM.out.len; omega)
      have hrow : lwRow m (keepP m R) (sumP R) xi xc = keepP m (addP R xi xc) := by
        unfold lwRow; rw [if_pos hz]; exact keep_add (by omega) HSM.out.good (by have := HSM.out.sum; omega) hfe.1
      have hsumm : lwSum (sumP R) xc = sumP (addP R xi xc) := by unfold lwSum; rw [if_pos hz, hsadd]
      have HADD := Lib.hid (HD.out.add _ B S' m (keepP m R) (sumP R) xi xc HSDA.out.st hle HOK.out.1 HOK.out.2)
      rw [hz, hrow, hsumm] at HADD
      have HBA := Lib.hid hba
      obtain ⟨q0, q1⟩ := two_new9 wr (.int .i64 xi) (.int .u64 xc) 34
      obtain ⟨wa, hwa⟩ : ∃ wa, wr.alloc (.cells #[.int .i64 xi, .int .u64 xc] 34) = wa := ⟨_, rfl⟩
      have hza : wa.heap.size = wr.heap.size + 1 := by rw [← hwa]; simp
      rw [hwa] at HSDA HADD HBA q0 q1
      have HZA := Lib.hid hza
      clear hxk hit hs50 hsadd hRk hz hrow hsumm hle hcn hba hza
      go_wp2_with fail
      clear hwa
      refine HADD.out.mono ?_
      rintro e w3 ⟨S3, rfl, h3, k3, hs3⟩
      have hnw : ¬ S' wr.heap.size := fun hx => by have := HD.out.lt _ _ _ _ _ _ HSD.out.st _ hx; omega
      have p0 := k3.cell hnw q0
      have p1 := k3.cell hnw q1
      have hr3 := HSDA.out.past k3
      obtain ⟨av, cv, hve, hPv, d0, d1⟩ := hr3.row HSM.out.ok
      have H3 := Lib.hid h3
      have K3 := Lib.hid k3
      have HS3 := Lib.hid hs3
      have HPV := Lib.hid hPv
      have hb3 := k3.below HBA.out HBA.out.size HSDA.out.above
      have HB3 := Lib.hid hb3
      have frC : Hid (∀ wx, Below w3.drew.heap.size w3.drew wx → wx.frozen? ⟨M, 1, none⟩ = false) := Lib.hid (fun wx hx => (hr3.1.call ((Below.refl _ _).drew.trans hx)).f1)
      have HADR : Hid (∀ wx, Below w3.heap.size w3 wx → Calls Try.prog 12 #[.slice av R.length cv, .int .i64 xi, .int .u64 xc] wx fun e w' => ∃ v, e = .returned v ∧ OwnP w' wx.heap.size v (addP R xi xc) ∧ Below wx.heap.size wx w') := Lib.hid (fun wx hx =>
        radd_any wx av cv R xi xc _ (HPV.out.call hx) (by have := HSM.out.len; omega) HOK.out.1 HOK.out.2 rfl (by have := count_le_sum xi (ok_pos HSM.out.ok); have := HSM.out.sum; omega))
      clear h3 k3 hs3 hPv hb3 hr3 hnw
      go_wp2_with fail
      go_region_with (go_at_call 12; refine (HADR.out _ (Below.refl _ _).drew).mono ?_; rintro e wC ⟨v4, rfl, ho4, hbC⟩; obtain ⟨A4, c4, rfl⟩ := ho4.form; have gC := cell_later ((Below.refl w3.heap.size w3).drew.trans hbC) d1; have fC := frC.out _ hbC)
      all_goals
        have hbC2 : Below w3.heap.size w3 wC := (Below.refl w3.heap.size w3).drew.trans hbC
        have hst := SideL.step HD.out HSDA.out H3.out K3.out HS3.out HBA.out.size hbC2 ho4
        have hb9 := (HB3.out.trans (hbC2.mono HB3.out.size)).setCell (p := ⟨M, 1, none⟩) HSDA.out.mab (.slice A4 (addP R xi xc).length c4)
        have HST := Lib.hid hst
        have HB9 := Lib.hid hb9
        clear hst hb9 ho4 hbC hbC2 gC fC d0 d1 p0 p1 q0 q1 c0 c1
        go_wp2_with fail
        go_roundg (L.length - (k + 1))
        case measure => omega
        case rel => exact ⟨k + 1, S3, _, _, hlt, rfl, by go_num, HRK.out, HST.out, HS50.out, HB9.out⟩
    · obtain rfl : k = L.length := by omega
      have kk : ¬ (L.length : Int) < L.length := by omega
      have hR : R = foldP L := by have := HRR.out; rwa [List.take_length] at this
      subst hR
      go_wp2_with fail
      refine bodyPost_ret (v := .tuple #[.pointer (some ⟨B, 0, none⟩), .pointer (some ⟨M, 0, none⟩)]) (by simp [results, Try.results23, go_sem]) rfl ?_
      exact ⟨B, S', M, rfl, ⟨v, HSD.out⟩, HSM.out, hb2⟩
end Go.Proofs.Ytjgaieicljnhkaa
