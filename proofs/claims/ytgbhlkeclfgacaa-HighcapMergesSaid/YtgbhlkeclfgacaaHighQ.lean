/-
  Walks: package highcap: New, Add, fit, Load.
-/
import Derived.Test.YtgbhlkeclfgacaaHighP
import Derived.Test.YtgbhlkeclfgacaaRunsP
namespace Go.Proofs.Ytgbhlkeclfgacaa
set_option linter.unusedVariables false
set_option linter.unusedSimpArgs false
open Go.RowKit

/-- At block B lies a highcap of m indexes that keeps K, of T in all. -/
def HighX (St : World → Nat → (Nat → Prop) → Int → List PairV → Prop) (w : World) (B : Nat) (S : Nat → Prop) (m : Int) (K : List PairV) (T : Int) : Prop := Hgp m K T ∧ HighRaw St w B S m K (T - sumP K)

set_option maxHeartbeats 1000000 in
theorem hlnew_any {St : World → Nat → (Nat → Prop) → Int → List PairV → Prop} (D : StripDoes St) (w : World) (m : Int) (h1 : 1 ≤ m) (h2 : m ≤ 4096) :
    Calls Try.prog 10 #[.int .i64 m] w fun e w' => ∃ B S, e = .returned (.tuple #[.pointer (some ⟨B, 0, none⟩), .int .i64 0]) ∧ HighRaw St w' B S m [] 0 ∧ (∀ k, S k → w.heap.size ≤ k) ∧ Below w.heap.size w w' := by
  have HD := Lib.hid D
  clear D
  go_enter Try.func10, Try.ntmps10
  go_wp2_with fail
  refine (HD.out.new _ m h1 h2).mono ?_
  rintro e w1 ⟨C, S0, rfl, hst, hs0, b1⟩
  have HST := Lib.hid hst
  have HS0 := Lib.hid hs0
  have z1 := b1.size
  clear hst hs0
  go_wp2_with fail
  refine bodyPost_ret (v := .tuple #[.pointer (some ⟨w1.heap.size, 0, none⟩), .int .i64 0]) (by simp [results, Try.results10, go_sem]) rfl ?_
  have hb : Below w1.heap.size w1 (w1.alloc (.cells #[.int .i64 m, .pointer (some ⟨C, 0, none⟩), .int .u64 0] 63)) := (Below.refl _ _).alloc (Nat.le_refl _) _
  refine ⟨w1.heap.size, fun k => k = w1.heap.size ∨ S0 k, rfl, ⟨C, S0, heap_alloc_new _ _, HD.out.call HST.out hb, fun h => by have := HD.out.lt _ _ _ _ _ HST.out _ h; omega, fun k => Iff.rfl⟩, ?_, b1.alloc z1 _⟩
  rintro k (rfl | hk)
  · exact z1
  · exact HS0.out k hk
set_option maxHeartbeats 1000000 in
theorem hlbad_any {St : World → Nat → (Nat → Prop) → Int → List PairV → Prop} (D : StripDoes St) (w : World) (m : Int) (hm : I64 m) (hb : m < 1 ∨ 4096 < m) :
    Calls Try.prog 10 #[.int .i64 m] w fun e w' => e = .returned (.tuple #[.pointer none, .int .i64 1]) ∧ Below w.heap.size w w' := by
  have HB := Lib.hid (D.bad w m hm hb)
  clear D hb
  go_enter Try.func10, Try.ntmps10
  go_wp2_with fail
  refine HB.out.mono ?_
  rintro e w1 ⟨rfl, b1⟩
  go_wp2_with fail
  go_ret2
  exact ⟨rfl, b1⟩

/-- How many there are in all. -/
theorem hltotal_raw {St : World → Nat → (Nat → Prop) → Int → List PairV → Prop} (D : StripDoes St) {w : World} {B : Nat} {S : Nat → Prop} {m T : Int} {K : List PairV} (h : HighX St w B S m K T) (hl : K.length ≤ 900) :
    Calls Try.prog 18 #[.pointer (some ⟨B, 0, none⟩)] w fun e w' => e = .returned (.int .u64 T) ∧ Below w.heap.size w w' := by
  obtain ⟨hp, C, S0, hb, hst, hn, hS⟩ := h
  obtain ⟨c0, c1, c2⟩ := three_cells hb
  have h1 := hltotal_of w _ _ (T - sumP K) (sumP K) (ownsh_at c1) (lostsh_at c2) (D.total _ _ _ _ _ hst hl) (by have := hp.sum; omega) hp.pos (by have := hp.top; omega)
  rwa [show T - sumP K + sumP K = T by omega] at h1

set_option maxRecDepth 100000 in
set_option maxHeartbeats 2000000 in
theorem hladd_any {St : World → Nat → (Nat → Prop) → Int → List PairV → Prop} (D : StripDoes St) (w : World) (B : Nat) (S : Nat → Prop) (m : Int) (K : List PairV) (T i c : Int) (h : HighX St w B S m K T) (hl : K.length ≤ 700) (hi : I64 i) (hc : Word c) :
    Calls Try.prog 11 #[.pointer (some ⟨B, 0, none⟩), .int .i64 i, .int .u64 c] w fun e w' => ∃ S', e = .returned (.int .i64 (lwErr T c)) ∧ HighX St w' B S' m (hgRow m K T i c) (lwSum T c) ∧ Keeps S w w' ∧ (∀ k, S' k → S k ∨ w.heap.size ≤ k) := by
  have HT := Lib.hid (hltotal_raw D h (by omega))
  have HX := Lib.hid h
  have HD := Lib.hid D
  have HI := Lib.hid hi
  have hp := h.1
  have HP := Lib.hid hp
  have t1 := hp.top
  have t0 : 0 ≤ T := by have := hp.pos; have := hp.sum; omega
  obtain ⟨i0, i1⟩ := hi
  obtain ⟨w0, w1⟩ := hc
  have hcases := lwErr_cases (T := T) (c := c) ⟨w0, w1⟩
  have HSAME : Hid (∀ w', Below w.heap.size w w' → lwErr T c ≠ 0 → HighX St w' B S m (hgRow m K T i c) (lwSum T c)) := Lib.hid (fun w' hb he => by
    unfold hgRow lwSum
    rw [if_neg he, if_neg he]
    exact ⟨HP.out, hraw_call HD.out HX.out.2 hb⟩)
  clear D h hp
  rcases hcases with ⟨rfl, e⟩ | ⟨hc0, hfull, e⟩ | ⟨hc0, hfit, e⟩
  · have E := Lib.hid e
    clear e
    go_enter Try.func11, Try.ntmps11
    go_wp2_with fail
    go_ret
    exact ⟨S, ret_int E.out.symm, HSAME.out _ (Below.refl _ _) (by rw [E.out]; decide), Keeps.refl _ _, fun k hk => Or.inl hk⟩
  · have E := Lib.hid e
    have c00 : (c == 0) = false := by simp; omega
    obtain ⟨pb, pq⟩ := plus2_no (x := T) (y := c) (by omega)
    have PB := Lib.hid pb
    have PQ := Lib.hid pq
    clear e pb pq
    go_enter Try.func11, Try.ntmps11
    go_wp2_with fail
    refine HT.out.mono ?_
    rintro e w2 ⟨rfl, b2⟩
    go_wp2_with fail
    refine (plus_two T c 0 false _ _ _ ⟨by omega, by omega⟩ ⟨by omega, by omega⟩ (two_words w2 _ _ _).1 (two_words w2 _ _ _).2 PQ.out PB.out).mono ?_
    rintro e w3 ⟨rfl, rfl⟩
    go_wp2_with fail
    go_ret
    have hb := b2.alloc b2.size (.cells #[.int .u64 T, .int .u64 c] 32)
    exact ⟨S, ret_int E.out.symm, HSAME.out _ hb (by rw [E.out]; decide), Keeps.of_below hb, fun k hk => Or.inl hk⟩
  · have E := Lib.hid e
    have c00 : (c == 0) = false := by simp; omega
    obtain ⟨pb, pq⟩ := plus2_yes (x := T) (y := c) (by omega)
    have PB := Lib.hid pb
    have PQ := Lib.hid pq
    have HPUT : Hid (∀ w', Below w.heap.size w w' → Calls Try.prog 34 #[.pointer (some ⟨B, 0, none⟩), .int .i64 i, .int .u64 c] w' fun e w'' => e = .returned (.tuple #[]) ∧ ∃ S', HighRaw St w'' B S' m (keepH m (addP K i c)) (T + c - sumP (keepH m (addP K i c))) ∧ Keeps S w' w'' ∧ (∀ j, S' j → S j ∨ w'.heap.size ≤ j)) := Lib.hid (fun w' hb => by
      have hp := HP.out
      have h1 := hlput_any HD.out w' B S m K (T - sumP K) i c (hraw_call HD.out HX.out.2 hb) hp.good hp.ok hp.kept (by omega) ⟨i0, i1⟩ hc0 hp.m1 hp.m2 (by have := hp.sum; omega) (by omega)
      rwa [show T - sumP K + sumP K + c = T + c by omega] at h1)
    clear e pb pq
    go_enter Try.func11, Try.ntmps11
    go_wp2_with fail
    refine HT.out.mono ?_
    rintro e w2 ⟨rfl, b2⟩
    go_wp2_with fail
    refine (plus_two T c (T + c) true _ _ _ ⟨by omega, by omega⟩ ⟨by omega, by omega⟩ (two_words w2 _ _ _).1 (two_words w2 _ _ _).2 PQ.out PB.out).mono ?_
    rintro e w3 ⟨rfl, rfl⟩
    have hb := b2.alloc b2.size (.cells #[.int .u64 T, .int .u64 c] 32)
    go_wp2_with fail
    refine (HPUT.out _ hb).mono ?_
    rintro e w4 ⟨rfl, S4, hr4, k4, hs4⟩
    have HR4 := Lib.hid hr4
    have HB := Lib.hid hb
    clear hr4 hb
    go_wp2_with fail
    go_ret
    refine ⟨S4, ret_int E.out.symm, ?_, (Keeps.of_below HB.out).trans k4 (fun j hj => Or.inl hj), fun j hj => ?_⟩
    · unfold hgRow lwSum
      rw [if_pos E.out, if_pos E.out]
      exact ⟨HP.out.add HI.out hc0 (by omega), HR4.out⟩
    · rcases hs4 j hj with h | h
      · exact Or.inl h
      · have := HB.out.size; exact Or.inr (by omega)

set_option maxRecDepth 100000 in
set_option maxHeartbeats 2000000 in
theorem hlfit_any (w : World) (m : Int) (A : Option Addr) (cap : Nat) (L : List PairV) (l : Int) (b : Bool) (h : Pairs w A L) (hl : L.length ≤ 900) (hw : Word l) (m1 : 1 ≤ m) (m2 : m ≤ 4096) (hb : loadB m L l = b) :
    Calls Try.prog 43 #[.int .i64 m, .slice A L.length cap, .int .u64 l] w fun e w' => e = .returned (.bool b) ∧ Below w.heap.size w w' := by
  have HP := Lib.hid h
  have HL := Lib.hid hl
  obtain ⟨l0, l1⟩ := hw
  obtain ⟨g, hg⟩ : ∃ g, (goodB L && decide ((L.length : Int) ≤ m)) = g := ⟨_, rfl⟩
  have HG := Lib.hid (good_does w A cap L m g h (by omega) ⟨by omega, by omega⟩ hg)
  unfold loadB at hb
  rw [hg] at hb
  cases g with
  | false =>
    simp only [Bool.false_and] at hb
    subst hb
    clear h hg
    go_enter Try.func43, Try.ntmps43
    go_wp2_with fail
    refine HG.out.mono ?_
    rintro e w2 ⟨rfl, b2⟩
    go_wp2_with fail
    go_ret
    exact ⟨rfl, b2⟩
  | true =>
    have hgood : GoodP L := goodB_true.1 (Bool.and_eq_true_iff.1 hg).1
    simp only [Bool.true_and] at hb
    by_cases hL : L = []
    · have hb2 : (l == 0) = b := by
        rw [← hb, hL]
        simp
        rw [show sumP [] = 0 from rfl]
        by_cases hz : l = 0 <;> simp [hz]
      subst hL
      clear hb h hg
      go_enter Try.func43, Try.ntmps43
      go_wp2_with fail
      refine HG.out.mono ?_
      rintro e w2 ⟨rfl, b2⟩
      go_wp2_with fail
      go_ret
      exact ⟨by rw [← hb2]; rfl, b2⟩
    · have hpos : 0 < L.length := by cases L with
        | nil => exact absurd rfl hL
        | cons p r => simp
      have hb2 : (decide (sumP L + l ≤ 9223372036854775807) && decide (endP L - (firP L).1 < m)) = b := by
        rw [← hb]; simp [hL]
      obtain ⟨px, pc, hx0⟩ : ∃ px pc, L[0]? = some (px, pc) := ⟨L[0].1, L[0].2, List.getElem?_eq_getElem hpos⟩
      obtain ⟨qx, qc, hx1⟩ : ∃ qx qc, L[L.length - 1]? = some (qx, qc) := ⟨L[L.length - 1].1, L[L.length - 1].2, List.getElem?_eq_getElem (by omega)⟩
      have h1 : (firP L).1 = px := by unfold firP; rw [List.head?_eq_getElem?, hx0]; rfl
      have h2 : endP L = qx := by unfold endP lasP; rw [List.getLast?_eq_getElem?, hx1]; rfl
      have hle : px ≤ qx := by
        rw [← h1, ← h2]
        obtain ⟨p, hp, e⟩ := end_mem hL
        rw [← e]; exact good_fir_end hgood p hp
      have hsp := sumP_pos (ok_pos h.ok)
      rw [h1, h2] at hb2
      obtain ⟨nn, hnn⟩ : ∃ nn, L.length - 1 = nn := ⟨_, rfl⟩
      rw [hnn] at hx1
      obtain ⟨ga, off, rfl, hbl, d0, _⟩ := h.at_ 0 _ hx0
      obtain ⟨ga', off', e', _, g0, _⟩ := h.at_ nn _ hx1
      obtain ⟨rfl, rfl, _⟩ := Addr.mk.inj (Option.some.inj e')
      simp only [Nat.zero_mul, Nat.add_zero] at d0
      simp only at g0
      have ok0 := (h.ok _ (List.mem_of_getElem? hx0)).1
      have ok1 := (h.ok _ (List.mem_of_getElem? hx1)).1
      simp only at ok0 ok1
      have hgap : gap px qx = qx - px := by unfold gap; split <;> omega
      have HGAP := Lib.hid (hlgap_any px qx ok0 ok1)
      rw [hgap] at HGAP
      obtain ⟨s, hs⟩ : ∃ s, sumP L = s := ⟨_, rfl⟩
      rw [hs] at hb2 hsp
      have HTOT : Hid (∀ w', Below w.heap.size w w' → Calls Try.prog 50 #[.slice (some ⟨ga, off, none⟩) L.length cap] w' fun e w'' => e = .returned (.tuple #[.int .u64 (totalP L), .bool (fitsB L)]) ∧ Below w'.heap.size w' w'') := Lib.hid (fun w' hb' => total_does w' _ cap L _ _ (HP.out.call hb') (by have := HL.out; omega) rfl rfl)
      have hfb : fitsB L = decide (s ≤ 9223372036854775807) := by unfold fitsB; rw [hs]
      have htp : totalP L = if s ≤ 9223372036854775807 then s else 0 := by unfold totalP; rw [hfb, hs]; by_cases h : s ≤ 9223372036854775807 <;> simp [h]
      obtain ⟨N, hN⟩ : ∃ N, L.length = N := ⟨_, rfl⟩
      rw [hN] at HG HTOT hpos hnn hl ⊢
      have kN : (0 : Int) < (N : Int) := by omega
      have k0 : ((N : Int) == 0) = false := by simp; omega
      have u1 : IntKind.i64.wrap ((N : Int) - 1) = (nn : Int) := by rw [IntKind.wrap_i64]; omega
      have u2 : (N : Int) - 1 = (nn : Int) := by omega
      have u3 : (nn : Int) < (N : Int) := by omega
      have u4 : (0 : Int) ≤ (nn : Int) := by omega
      have u5 : IntKind.i64.wrap (nn : Int) = (nn : Int) := by rw [IntKind.wrap_i64]; omega
      have e1 : IntKind.u64.wrap m = m := by rw [IntKind.wrap_u64]; omega
      obtain ⟨p0, p1⟩ := ok0
      obtain ⟨q0, q1⟩ := ok1
      by_cases hf : s ≤ 9223372036854775807
      · rw [hfb, htp, if_pos hf, decide_eq_true hf] at HTOT
        by_cases hf2 : s + l ≤ 9223372036854775807
        · rw [decide_eq_true hf2, Bool.true_and] at hb2
          obtain ⟨pb, pq⟩ := plus2_yes (x := s) (y := l) hf2
          have PB := Lib.hid pb
          have PQ := Lib.hid pq
          clear h hg hgood hb hL hx0 hx1 h1 h2 hgap hs hfb htp hnn pb pq e' hl hpos hbl hN
          go_enter Try.func43, Try.ntmps43
          go_wp2_with fail
          refine HG.out.mono ?_
          rintro e w2 ⟨rfl, b2⟩
          go_wp2_with fail
          refine (HTOT.out _ b2).mono ?_
          rintro e w3 ⟨rfl, b3⟩
          go_wp2_with fail
          refine (plus_two s l (s + l) true _ _ _ ⟨by omega, by omega⟩ ⟨by omega, by omega⟩ (two_words w3 _ _ _).1 (two_words w3 _ _ _).2 PQ.out PB.out).mono ?_
          rintro e w4 ⟨rfl, rfl⟩
          have b4 := (b2.trans (b3.mono b2.size)).alloc (Nat.le_trans b2.size b3.size) (.cells #[.int .u64 s, .int .u64 l] 32)
          have d4 := cell_later b4 d0
          have g4 := cell_later b4 g0
          go_wp2_with fail
          go_quiet ((go_at_call 52; exact Calls.quiet_of_same ((HGAP.out _).mono fun e w' ⟨h1, h2⟩ => ⟨h1, h2.symm⟩)))
          go_wp2_with fail
          go_ret
          exact ⟨by rw [← hb2]; rfl, below_drewN b4 _⟩
        · have hb3 : b = false := by rw [← hb2, decide_eq_false hf2]; rfl
          subst hb3
          obtain ⟨pb, pq⟩ := plus2_no (x := s) (y := l) (by omega)
          have PB := Lib.hid pb
          have PQ := Lib.hid pq
          clear h hg hgood hb hL hx0 hx1 h1 h2 hgap hs hfb htp hnn pb pq e' hl hpos hbl hN hb2
          go_enter Try.func43, Try.ntmps43
          go_wp2_with fail
          refine HG.out.mono ?_
          rintro e w2 ⟨rfl, b2⟩
          go_wp2_with fail
          refine (HTOT.out _ b2).mono ?_
          rintro e w3 ⟨rfl, b3⟩
          go_wp2_with fail
          refine (plus_two s l 0 false _ _ _ ⟨by omega, by omega⟩ ⟨by omega, by omega⟩ (two_words w3 _ _ _).1 (two_words w3 _ _ _).2 PQ.out PB.out).mono ?_
          rintro e w4 ⟨rfl, rfl⟩
          have b4 := (b2.trans (b3.mono b2.size)).alloc (Nat.le_trans b2.size b3.size) (.cells #[.int .u64 s, .int .u64 l] 32)
          go_wp2_with fail
          go_quiet (fail)
          go_wp2_with fail
          go_ret
          exact ⟨rfl, below_drewN b4 _⟩
      · rw [hfb, htp, if_neg hf, decide_eq_false hf] at HTOT
        have hb3 : b = false := by
          rw [← hb2]
          rw [decide_eq_false (show ¬ s + l ≤ 9223372036854775807 by omega)]; rfl
        subst hb3
        clear h hg hgood hb hL hx0 hx1 h1 h2 hgap hs hfb htp hnn e' hl hpos hbl hN hb2
        go_enter Try.func43, Try.ntmps43
        go_wp2_with fail
        refine HG.out.mono ?_
        rintro e w2 ⟨rfl, b2⟩
        go_wp2_with fail
        refine (HTOT.out _ b2).mono ?_
        rintro e w3 ⟨rfl, b3⟩
        go_wp2_with fail
        go_ret
        exact ⟨rfl, b2.trans (b3.mono b2.size)⟩

/-- A row that is loaded pair by pair. -/
theorem htake_kept {m : Int} {L : List PairV} {k : Nat} (hm : 0 < m) (hg : GoodP L) (hs : L ≠ [] → endP L - (firP L).1 < m) : keepH m (L.take k) = L.take k := by
  unfold keepH lowP
  refine List.filter_eq_self.2 fun p hp => ?_
  have hL : L ≠ [] := by rintro rfl; rw [List.take_nil] at hp; cases hp
  have h1 := end_ge hg p (List.mem_of_mem_take hp)
  have hne : L.take k ≠ [] := by intro h; rw [h] at hp; cases hp
  obtain ⟨q, hq, e⟩ := beg_mem hne
  have h2 := good_fir_end hg q (List.mem_of_mem_take hq)
  have := hs hL
  simp; omega
theorem hload_step {m : Int} {L : List PairV} {k : Nat} {p : PairV} (hm : 0 < m) (hg : GoodP L) (hs : L ≠ [] → endP L - (firP L).1 < m) (hk : L[k]? = some p) : keepH m (addP (L.take k) p.1 p.2) = L.take (k + 1) := by
  have hg1 := good_take (k + 1) hg
  have hlt : ∀ q, q ∈ L.take k → q.1 < p.1 := fun q hq => by
    rw [take_snocP hk] at hg1
    exact (good_app hg1).2.2 q hq p (by simp)
  have hc : countP (L.take k) p.1 = 0 := by
    unfold countP
    rw [List.filter_eq_nil_iff.2 (fun q hq => by have := hlt q hq; simp; omega)]; rfl
  have hp := hg.1 p (List.mem_of_getElem? hk)
  have e : addP (L.take k) p.1 p.2 = L.take (k + 1) := by
    refine good_ext (add_good (good_take k hg) (by omega)) hg1 fun j => ?_
    rw [count_add (by omega), take_snocP hk, countP_app, countP_one]
    by_cases e : j = p.1
    · rw [if_pos e, if_pos e.symm]
    · rw [if_neg e, if_neg (fun h => e h.symm)]
  rw [e]
  exact htake_kept hm hg hs

set_option maxRecDepth 100000 in
set_option maxHeartbeats 2000000 in
theorem hlunfit_any {St : World → Nat → (Nat → Prop) → Int → List PairV → Prop} (D : StripDoes St) (w : World) (m : Int) (A : Option Addr) (cap : Nat) (L : List PairV) (l : Int) (m1 : 1 ≤ m) (m2 : m ≤ 4096) (h : Pairs w A L) (hl : L.length ≤ 300) (hw : Word l) (hb : loadB m L l = false) :
    Calls Try.prog 30 #[.int .i64 m, .slice A L.length cap, .int .u64 l] w fun e w' => e = .returned (.tuple #[.pointer none, .int .i64 1]) ∧ Below w.heap.size w w' := by
  have HN := Lib.hid (hlnew_any D w m m1 m2)
  have HF : Hid (∀ w', Below w.heap.size w w' → Calls Try.prog 43 #[.int .i64 m, .slice A L.length cap, .int .u64 l] w' fun e w'' => e = .returned (.bool false) ∧ Below w'.heap.size w' w'') := Lib.hid (fun w' hb' => hlfit_any w' m A cap L l false (h.call hb') (by omega) hw m1 m2 hb)
  clear D h hb
  go_enter Try.func30, Try.ntmps30
  go_wp2_with fail
  refine HN.out.mono ?_
  rintro e w1 ⟨B, S, rfl, hr1, hs1, b1⟩
  have z1 := b1.size
  have HR := Lib.hid hr1
  have HS := Lib.hid hs1
  clear hr1 hs1
  go_wp2_with fail
  refine (HF.out _ b1).mono ?_
  rintro e w2 ⟨rfl, b2⟩
  go_wp2_with fail
  go_ret2
  exact ⟨rfl, b1.trans (b2.mono z1)⟩

set_option maxRecDepth 100000 in
set_option maxHeartbeats 2000000 in
theorem hlload_any {St : World → Nat → (Nat → Prop) → Int → List PairV → Prop} (D : StripDoes St) (w : World) (m : Int) (A : Option Addr) (cap : Nat) (L : List PairV) (l : Int) (m1 : 1 ≤ m) (m2 : m ≤ 4096) (h : Pairs w A L) (hl : L.length ≤ 300) (hw : Word l) (hb : loadB m L l = true) :
    Calls Try.prog 30 #[.int .i64 m, .slice A L.length cap, .int .u64 l] w fun e w' => ∃ B S, e = .returned (.tuple #[.pointer (some ⟨B, 0, none⟩), .int .i64 0]) ∧ HighRaw St w' B S m L l ∧ (∀ k, S k → w.heap.size ≤ k) ∧ Below w.heap.size w w' := by
  have HN := Lib.hid (hlnew_any D w m m1 m2)
  have HF : Hid (∀ w', Below w.heap.size w w' → Calls Try.prog 43 #[.int .i64 m, .slice A L.length cap, .int .u64 l] w' fun e w'' => e = .returned (.bool true) ∧ Below w'.heap.size w' w'') := Lib.hid (fun w' hb' => hlfit_any w' m A cap L l true (h.call hb') (by omega) hw m1 m2 hb)
  obtain ⟨hg, _, _, hsum, hnear⟩ := load_true hb
  have HD := Lib.hid D
  have HP := Lib.hid h
  have HG := Lib.hid hg
  have HNE := Lib.hid hnear
  have HL := Lib.hid hl
  have HSM := Lib.hid hsum
  have HSP := Lib.hid (fun k => sumP_take (L := L) k (ok_pos h.ok))
  obtain ⟨l0, l1⟩ := hw
  clear D h hb hg hnear hl hsum
  go_enter Try.func30, Try.ntmps30
  go_wp2_with fail
  refine HN.out.mono ?_
  rintro e w1 ⟨B, S, rfl, hr1, hs1, b1⟩
  have z1 := b1.size
  have HR := Lib.hid hr1
  have HS := Lib.hid hs1
  clear hr1 hs1
  go_wp2_with fail
  refine (HF.out _ b1).mono ?_
  rintro e w2 ⟨rfl, b2⟩
  have hbb := b1.trans (b2.mono z1)
  have HR2 := Lib.hid (hraw_call HD.out HR.out b2)
  clear b1 b2
  go_wp2_with fail
  go_loopw [28] (fun j wr => ∃ (k : Nat) (S' : Nat → Prop), k ≤ L.length ∧ j = .int .i64 k ∧ HighRaw St wr B S' m (L.take k) 0 ∧ (∀ x, S' x → w.heap.size ≤ x) ∧ Below w.heap.size w wr) (fun j _ => L.length - (intOf j).toNat)
  case atStart => exact ⟨0, S, Nat.zero_le _, rfl, HR2.out, HS.out, hbb⟩
  case round =>
    clear hbb HR2 HR HS
    obtain ⟨k, S', hk, rfl, hr, hs, hb2⟩ := hrel
    have hbs := hb2.size
    have HR := Lib.hid hr
    have HS := Lib.hid hs
    clear hr hs
    by_cases hlt : k < L.length
    · have kk : (k : Int) < L.length := by omega
      have hxk : L[k]? = some L[k] := List.getElem?_eq_getElem hlt
      generalize hit : L[k] = x at *
      obtain ⟨xi, xc⟩ := x
      obtain ⟨b1, off, rfl, hbl, c0, c1⟩ := (HP.out.call hb2).at_ k _ hxk
      simp only at c0 c1
      have hok := HP.out.ok _ (List.mem_of_getElem? hxk)
      have hgd := HG.out.1 _ (List.mem_of_getElem? hxk)
      have HST := Lib.hid (hload_step (by omega) HG.out HNE.out hxk)
      have HSS := Lib.hid (psum_step hxk)
      have HOK := Lib.hid hok
      obtain ⟨⟨o1, o2⟩, o3, o4⟩ := hok
      simp only at o1 o2 o3 o4 hgd
      have hb3 : Below w.heap.size w (wr.alloc (.cells #[.int .i64 xi, .int .u64 xc] 34)) := hb2.alloc hbs _
      have HPUT := Lib.hid (hlput_any HD.out _ B S' m (L.take k) 0 xi xc (hraw_call HD.out HR.out ((Below.refl _ _).alloc (Nat.le_refl _) (.cells #[.int .i64 xi, .int .u64 xc] 34))) (good_take k HG.out) (fun p hp => HP.out.ok p (List.mem_of_mem_take hp)) (htake_kept (by omega) HG.out HNE.out)
        (by rw [List.length_take]; have := HL.out; omega) HOK.out.1 (by omega) m1 m2 (Int.le_refl _) (by have h1 : sumP (L.take (k + 1)) = sumP (L.take k) + xc := HSS.out; have h2 := HSP.out (k + 1); have h3 := HSM.out; omega))
      rw [show keepH m (addP (L.take k) xi xc) = L.take (k + 1) from HST.out] at HPUT
      clear hxk hit
      go_wp2_with fail
      refine HPUT.out.mono ?_
      rintro e w4 ⟨rfl, S4, hr4, k4, hs4⟩
      have hb4 := k4.below hb3 hb3.size HS.out
      have HR4 : Hid (HighRaw St w4 B S4 m (L.take (k + 1)) 0) := Lib.hid (by
        have h1 : sumP (L.take (k + 1)) = sumP (L.take k) + xc := HSS.out
        rwa [show (0 : Int) + sumP (L.take k) + xc - sumP (L.take (k + 1)) = 0 by omega] at hr4)
      have HS4 : Hid (∀ x, S4 x → w.heap.size ≤ x) := Lib.hid (fun x hx => by
        rcases hs4 x hx with h | h
        · exact HS.out x h
        · have := hb3.size; omega)
      clear hr4 k4 hs4 hb3
      go_wp2_with fail
      go_roundw
      case rel => exact ⟨k + 1, S4, by omega, by go_num, HR4.out, HS4.out, hb4⟩
      case measure => simp [intOf]; omega
    · obtain rfl : k = L.length := by omega
      have kk : ¬ (L.length : Int) < L.length := by omega
      rw [List.take_length] at HR
      obtain ⟨C, S0, hb, _⟩ := id HR.out
      obtain ⟨c0, c1, c2⟩ := three_cells hb
      have f2 := free8 hb 2
      clear hb
      go_wp2_with fail
      refine bodyPost_ret (v := .tuple #[.pointer (some ⟨B, 0, none⟩), .int .i64 0]) (by simp [results, Try.results30, go_sem]) rfl ?_
      exact ⟨B, rfl, S', hraw_lost HD.out HR.out l, HS.out, hb2.setCell (p := ⟨B, 2, none⟩) (HS.out B (hraw_B HR.out)) _⟩
end Go.Proofs.Ytgbhlkeclfgacaa
