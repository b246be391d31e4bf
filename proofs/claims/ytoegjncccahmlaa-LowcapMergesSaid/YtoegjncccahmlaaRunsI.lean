/-
  Walk: the landed code of runs: Add.
-/
import Derived.Test.YtoegjncccahmlaaRunsF
import Derived.Test.YtoegjncccahmlaaRunsK
import Derived.Test.YtoegjncccahmlaaRunsN
import Derived.Deep.RegionWith
import Derived.Deep.AppendLies
namespace Go.Proofs.Ytoegjncccahmlaa
set_option linter.unusedVariables false
set_option linter.unusedSimpArgs false
open Go.RowKit

theorem isP_app (A B : List PairV) (i : Int) : isP (A ++ B) i = (isP A i || isP B i) := by unfold isP; rw [List.any_append]
theorem isP_no {L : List PairV} {i : Int} (h : ∀ p, p ∈ L → p.1 ≠ i) : isP L i = false := by
  unfold isP; rw [List.any_eq_false]; intro p hp; simpa using h p hp
theorem is_part {L : List PairV} {i : Int} (h : isP (lowP L i) i = false ∧ isP (highP L i) i = false := ⟨isP_no fun p hp => by have := (lowP_mem hp).2; omega, isP_no fun p hp => by have := (highP_mem hp).2; omega⟩) : isP (lowP L i ++ highP L i) i = false ∧ ∀ m, isP (lowP L i ++ ((i, m) :: highP L i)) i = true := by
  refine ⟨by rw [isP_app, h.1, h.2]; rfl, fun m => ?_⟩
  rw [isP_app]; unfold isP; simp
theorem cellsQ_set (A B : List PairV) (i m m' : Int) : (cellsQ (A ++ (i, m) :: B)).set (A.length * 2 + 1) (.int .u64 m') = cellsQ (A ++ (i, m') :: B) := by
  rw [cellsQ_app, cellsQ_app, cellsQ_cons, cellsQ_cons, List.set_append_right _ _ (by rw [cellsQ_len]; omega), cellsQ_len]
  rw [show A.length * 2 + 1 - A.length * 2 = 1 by omega]
  rfl

set_option maxRecDepth 100000 in
set_option maxHeartbeats 1000000 in
theorem add_none_does (w : World) (base : Nat) (v : Value) (L : List PairV) (i : Int) (h : OwnP w base v L) (hg : GoodP L) :
    Calls Try.prog 57 #[v, .int .i64 i, .int .u64 0] w (Added w base v L i 0) := by
  have HO : Hid (OwnP w base v (addP L i 0)) := Lib.hid (by rw [add_none hg]; exact h)
  obtain ⟨A, cap, rfl⟩ := h.form
  clear h hg
  go_enter Try.func57, Try.ntmps57
  go_wp2_with fail
  go_ret
  exact ⟨_, rfl, HO.out, grown_refl _ _, Or.inl rfl⟩

set_option maxRecDepth 100000 in
set_option maxHeartbeats 1000000 in
theorem add_in_does (w : World) (base : Nat) (v : Value) (L : List PairV) (i c m : Int) (h : OwnP w base v L) (hb : base ≤ w.heap.size) (ok : ∀ p, p ∈ L → okP p) (hg : GoodP L) (hl : L.length ≤ 1000) (hi : I64 i) (hc : Word c) (c0 : 0 < c)
    (hm : countP L i = m) (hmc : m + c ≤ 9223372036854775807) (hp : lowP L i ++ ((i, m) :: highP L i) = L) (hm1 : 1 ≤ m) :
    Calls Try.prog 57 #[v, .int .i64 i, .int .u64 c] w (Added w base v L i c) := by
  obtain ⟨A, cap, rfl, hP⟩ := h.pairs ok
  obtain ⟨n, hn⟩ : ∃ n, (lowP L i).length = n := ⟨_, rfl⟩
  have his : isP L i = true := by rw [← hp]; exact (is_part (L := L)).2 m
  have hF := find_big w A cap L i n true hP (by omega) hg hi hn his
  have hxn : L[n]? = some (i, m) := by
    have : (lowP L i ++ ((i, m) :: highP L i))[n]? = some (i, m) := by rw [List.getElem?_append_right (by omega), hn, Nat.sub_self]; rfl
    rwa [hp] at this
  have hnl : n < L.length := by
    rcases Nat.lt_or_ge n L.length with h1 | h1
    · exact h1
    · rw [List.getElem?_eq_none h1] at hxn; cases hxn
  have h' : w.ownsRow base 34 2 (.slice A L.length cap) L.length (cellsQ L) := h
  obtain ⟨g, cap', e⟩ : ∃ g cap', (Value.slice A L.length cap) = .slice (some ⟨g, 0, none⟩) L.length cap' := by
    rcases h'.2 with ⟨e, e0⟩ | ⟨g, cap', cur, e, _⟩
    · omega
    · exact ⟨g, cap', e⟩
  injection e with e1 _ e3
  subst e1
  obtain ⟨b0, off, e4, hbl, d0, d1⟩ := hP.at_ n _ hxn
  obtain ⟨rfl, rfl⟩ : g = b0 ∧ 0 = off := by
    have := Option.some.inj e4
    exact ⟨(Addr.mk.inj this).1, (Addr.mk.inj this).2.1⟩
  simp only [Nat.zero_add] at d0 d1
  have hadd : addP L i c = lowP L i ++ ((i, m + c) :: highP L i) := by unfold addP; rw [hm]; unfold midP; rw [if_pos (by omega)]; rfl
  have HS : Hid (∀ w1, Below w.heap.size w w1 → OwnP (w1.setCell ⟨g, n * 2 + 1, none⟩ (.int .u64 (m + c))) base (.slice (some ⟨g, 0, none⟩) L.length cap) (addP L i c) ∧ w.grownBy (w1.setCell ⟨g, n * 2 + 1, none⟩ (.int .u64 (m + c))) (some g)) := Lib.hid fun w1 hb1 => by
    have h1 : w1.ownsRow base 34 2 (.slice (some ⟨g, 0, none⟩) L.length cap) L.length (cellsQ L) := h.call hb1
    obtain ⟨s1, s2⟩ := h1.stored (n * 2 + 1) (.int .u64 (m + c))
    refine ⟨?_, ?_⟩
    · unfold OwnP
      have e5 := cellsQ_set (lowP L i) (highP L i) i m (m + c)
      rw [hp, hn] at e5
      rw [e5] at s1
      have e6 : (addP L i c).length = L.length := by rw [hadd]; have := congrArg List.length hp; simp only [List.length_append, List.length_cons] at this ⊢; exact this
      rw [e6, hadd]
      exact s1
    · exact grown_trans (grown_call (grown_refl w _) hb1) s2
  have HF0 : Hid (∀ w1, Below w.heap.size w w1 → w1.frozen? ⟨g, n * 2 + 1, none⟩ = false) := Lib.hid fun w1 hb1 => by
    have h1 : w1.ownsRow base 34 2 (.slice (some ⟨g, 0, none⟩) L.length cap) L.length (cellsQ L) := h.call hb1
    exact h1.frozenAt _
  have hm64 : m < 18446744073709551616 := by omega
  have hmc2 : IntKind.u64.wrap (m + c) = m + c := by rw [IntKind.wrap_u64]; omega
  have cz : (c == 0) = false := by simp; omega
  have HFF := Lib.hid hF
  obtain ⟨hc1, hc2⟩ := hc
  have nn : (n : Int) < L.length := by omega
  clear hF hxn h h' hP e4 hadd hm hp hn his hg ok e3 d0
  go_enter Try.func57, Try.ntmps57
  go_wp2_with fail
  refine HFF.out.mono ?_
  rintro e w1 ⟨rfl, hb1⟩
  have d2 : w1.cell? ⟨g, n * 2 + 1, none⟩ = some (.int .u64 m) := cell_later hb1 d1
  have f2 := HF0.out _ hb1
  clear d1
  go_wp2_with fail
  go_ret
  obtain ⟨s1, s2⟩ := HS.out _ hb1
  exact ⟨_, rfl, s1, s2, Or.inl rfl⟩

/-- Concat of what stands ahead, one pair, and what stands behind. -/
theorem add_concat (w1 : World) (A1 A3 : Option Addr) (n cap l3 cap3 : Nat) (lo hi : List PairV) (i c : Int) (hlo : Pairs w1 A1 lo) (hn : lo.length = n) (hhi : Pairs w1 A3 hi) (hl : hi.length = l3) (hi' : I64 i) (hc : Word c) (b1 : n ≤ 10000) (b3 : l3 ≤ 10000) :
    Calls Try.prog 63 #[.slice (some ⟨w1.heap.size + 1, 0, none⟩) 3 3]
      ((w1.alloc (.cells #[.int .i64 i, .int .u64 c] 34)).alloc (.cells #[.slice A1 n cap, .slice (some ⟨w1.heap.size, 0, none⟩) 1 1, .slice A3 l3 cap3] 22)).drew
      fun e w' => ∃ v, e = .returned v ∧ OwnP w' w1.heap.size v (lo ++ ((i, c) :: hi)) ∧ Below w1.heap.size w1 w' := by
  subst hn hl
  have bA : Below w1.heap.size w1 ((w1.alloc (.cells #[.int .i64 i, .int .u64 c] 34)).alloc (.cells #[.slice A1 lo.length cap, .slice (some ⟨w1.heap.size, 0, none⟩) 1 1, .slice A3 hi.length cap3] 22)).drew := (((Below.refl _ _).alloc (Nat.le_refl _) _).alloc (by simp) _).drew
  obtain ⟨W, hW⟩ : ∃ W, ((w1.alloc (.cells #[.int .i64 i, .int .u64 c] 34)).alloc (.cells #[.slice A1 lo.length cap, .slice (some ⟨w1.heap.size, 0, none⟩) 1 1, .slice A3 hi.length cap3] 22)).drew = W := ⟨_, rfl⟩
  have h1 : W.heap[w1.heap.size]? = some (.cells #[.int .i64 i, .int .u64 c] 34 (0, 0)) := by
    rw [← hW]
    exact (heap_alloc_old _ _ (by simp)).trans (heap_alloc_new w1 _)
  have h2 : W.heap[w1.heap.size + 1]? = some (.cells #[.slice A1 lo.length cap, .slice (some ⟨w1.heap.size, 0, none⟩) 1 1, .slice A3 hi.length cap3] 22 (0, 0)) := by
    rw [← hW]
    have := heap_alloc_new (w1.alloc (.cells #[.int .i64 i, .int .u64 c] 34)) (.cells #[.slice A1 lo.length cap, .slice (some ⟨w1.heap.size, 0, none⟩) 1 1, .slice A3 hi.length cap3] 22)
    rw [World.size_alloc] at this
    exact this
  rw [hW] at bA ⊢
  have hone : Pairs W (some ⟨w1.heap.size, 0, none⟩) [(i, c)] := pairs_of_block h1 rfl (fun p hp => by simp at hp; subst hp; exact ⟨hi', hc⟩)
  have hR : Rows2 W (some ⟨w1.heap.size + 1, 0, none⟩) [⟨A1, cap, lo⟩, ⟨some ⟨w1.heap.size, 0, none⟩, 1, [(i, c)]⟩, ⟨A3, cap3, hi⟩] := by
    refine ⟨fun j r hj => ⟨w1.heap.size + 1, 0, rfl, lt_of_block h2, ?_⟩, fun r hr => ?_⟩
    · match j, hj with
      | 0, hj => simp at hj; subst hj; simp [World.cell?, h2]
      | 1, hj => simp at hj; subst hj; simp [World.cell?, h2]
      | 2, hj => simp at hj; subst hj; simp [World.cell?, h2]
      | k + 3, hj => simp at hj
    · simp only [List.mem_cons, List.not_mem_nil, or_false] at hr
      rcases hr with rfl | rfl | rfl
      · exact ⟨hlo.call bA, by simp only; omega⟩
      · exact ⟨hone, by simp⟩
      · exact ⟨hhi.call bA, by simp only; omega⟩
  have hall : allP [⟨A1, cap, lo⟩, ⟨some ⟨w1.heap.size, 0, none⟩, 1, [(i, c)]⟩, ⟨A3, cap3, hi⟩] = lo ++ ((i, c) :: hi) := by simp [allP]
  have hC := concat_any W _ 3 3 _ hR rfl (by omega) (by rw [hall, List.length_append, List.length_cons]; omega)
  rw [hall] at hC
  refine hC.mono ?_
  rintro e w' ⟨v, rfl, ho, hb⟩
  exact ⟨v, rfl, World.ownsRow.mono ho bA.size, bA.trans (hb.mono bA.size)⟩

theorem pairs_low {w : World} {A : Option Addr} {lo hi : List PairV} (h : Pairs w A (lo ++ hi)) : Pairs w A lo :=
  ⟨fun p hp => h.ok p (List.mem_append_left _ hp), fun j p hj => h.at_ j p (by
    have hl : j < lo.length := by
      rcases Nat.lt_or_ge j lo.length with h1 | h1
      · exact h1
      · rw [List.getElem?_eq_none h1] at hj; cases hj
    rw [List.getElem?_append_left hl]; exact hj)⟩
theorem pairs_high {w : World} {g : Nat} {lo hi : List PairV} (h : Pairs w (some ⟨g, 0, none⟩) (lo ++ hi)) (n : Nat) (hn : lo.length = n) : Pairs w (some ⟨g, n * 2, none⟩) hi :=
  ⟨fun p hp => h.ok p (List.mem_append_right _ hp), fun j p hj => by
    obtain ⟨b, off, e, hb, c0, c1⟩ := h.at_ (n + j) p (by rw [List.getElem?_append_right (by omega), hn, Nat.add_sub_cancel_left]; exact hj)
    obtain ⟨rfl, rfl⟩ : g = b ∧ 0 = off := by
      have := Option.some.inj e
      exact ⟨(Addr.mk.inj this).1, (Addr.mk.inj this).2.1⟩
    refine ⟨g, n * 2, rfl, hb, ?_, ?_⟩
    · rw [← c0]; congr 2; omega
    · rw [← c1]; congr 2; omega⟩

set_option maxRecDepth 100000 in
set_option maxHeartbeats 1000000 in
theorem add_new_does (w : World) (base : Nat) (v : Value) (L : List PairV) (i c : Int) (h : OwnP w base v L) (hb : base ≤ w.heap.size) (ok : ∀ p, p ∈ L → okP p) (hg : GoodP L) (hl : L.length ≤ 1000) (hi : I64 i) (hc : Word c) (c0 : 0 < c)
    (hm : countP L i = 0) (hp : lowP L i ++ highP L i = L) :
    Calls Try.prog 57 #[v, .int .i64 i, .int .u64 c] w (Added w base v L i c) := by
  obtain ⟨A, cap, rfl, hP⟩ := h.pairs ok
  obtain ⟨n, hn⟩ : ∃ n, (lowP L i).length = n := ⟨_, rfl⟩
  have hnl : n ≤ L.length := by rw [← hn]; exact List.length_filter_le _ _
  have his : isP L i = false := by rw [← hp]; exact (is_part (L := L)).1
  have hF := find_big w A cap L i n false hP (by omega) hg hi hn his
  have hh : (highP L i).length = L.length - n := by have := congrArg List.length hp; rw [List.length_append] at this; omega
  have cz : (c == 0) = false := by simp; omega
  have hcap : L.length ≤ cap := by
    rcases h.2 with ⟨e, e0⟩ | ⟨g, cap', cur, e, _, _, hnc, _⟩
    · omega
    · injection e with _ _ e3; omega
  have hadd : addP L i c = lowP L i ++ ((i, c) :: highP L i) := by unfold addP; rw [hm, Int.zero_add]; unfold midP; rw [if_pos c0]; rfl
  have HADD := Lib.hid hadd
  have HFF := Lib.hid hF
  have HC := Lib.hid hc
  have HIX := Lib.hid hi
  obtain ⟨hc1, hc2⟩ := hc
  have hP2 : Pairs w A (lowP L i ++ highP L i) := by rw [hp]; exact hP
  have HP2 := Lib.hid hP2
  have HH := Lib.hid hh
  have HN := Lib.hid hn
  have hform : (A = none ∧ L.length = 0 ∧ cap = 0) ∨ ∃ g, A = some ⟨g, 0, none⟩ := by
    rcases h.2 with ⟨e, e0⟩ | ⟨g, cap', cur, e, _⟩
    · injection e with e1 e2 e3; exact Or.inl ⟨e1, e0, e3⟩
    · injection e with e1 _ _; exact Or.inr ⟨g, e1⟩
  clear hF hp hn his hg hP h hm hadd hP2 hh
  have fin : ∀ w1 w2 v2, Below w.heap.size w w1 → OwnP w2 w1.heap.size v2 (lowP L i ++ ((i, c) :: highP L i)) → Below w1.heap.size w1 w2 → Added w base (.slice A L.length cap) L i c (.returned v2) w2 := fun w1 w2 v2 hb1 ho hb2 =>
    ⟨v2, rfl, by rw [HADD.out]; exact World.ownsRow.mono ho (Nat.le_trans hb hb1.size), grown_call (grown_call (grown_refl w _) hb1) hb2, Or.inr fun g hg => Nat.le_trans hb1.size (OwnP.lt ho g hg).1⟩
  have FIN := Lib.hid fin
  clear fin
  rcases hform with ⟨rfl, hl0, rfl⟩ | ⟨g, rfl⟩
  · obtain rfl : n = 0 := by omega
    have HN2 : Hid (highP L i = []) := Lib.hid (List.eq_nil_of_length_eq_zero (by rw [HH.out]; omega))
    have HLL := Lib.hid hl0
    rw [hl0] at *
    clear hl0
    go_enter Try.func57, Try.ntmps57
    go_wp2_with fail
    refine HFF.out.mono ?_
    rintro e w1 ⟨rfl, hb1⟩
    have hC := add_concat w1 none none 0 0 0 0 (lowP L i) (highP L i) i c ((pairs_low HP2.out).call hb1) HN.out (by rw [HN2.out]; exact Pairs.nil _) (by rw [HN2.out]; rfl) HIX.out HC.out (by omega) (by omega)
    have HCC := Lib.hid hC
    clear hC
    go_wp2_with fail
    go_region_with (go_at_call 63; refine HCC.out.mono ?_; rintro e w2 ⟨v2, rfl, ho2, hb2⟩)
    all_goals
      go_wp2_with fail
      go_ret
      exact FIN.out _ _ _ hb1 ho2 hb2
  have n1 : (n : Int) ≤ cap := by omega
  have n2 : (n : Int) ≤ L.length := by omega
  have n3 : n ≤ cap := by omega
  by_cases hcn : cap = n
  · have e1 : L.length - n = 0 := by omega
    have HN2 : Hid (highP L i = []) := Lib.hid (List.eq_nil_of_length_eq_zero (by rw [HH.out]; omega))
    subst hcn
    have HE1 := Lib.hid e1
    clear e1
    go_enter Try.func57, Try.ntmps57
    go_wp2_with fail
    refine HFF.out.mono ?_
    rintro e w1 ⟨rfl, hb1⟩
    have hC := add_concat w1 (some ⟨g, 0, none⟩) (some ⟨g, 0, none⟩) cap cap 0 0 (lowP L i) (highP L i) i c ((pairs_low HP2.out).call hb1) HN.out (by rw [HN2.out]; exact ⟨fun p hp => (by cases hp), fun j p hj => by simp at hj⟩) (by rw [HN2.out]; rfl) HIX.out HC.out (by omega) (by omega)
    have HCC := Lib.hid hC
    clear hC
    go_wp2_with fail
    go_region_with (go_at_call 63; refine HCC.out.mono ?_; rintro e w2 ⟨v2, rfl, ho2, hb2⟩)
    all_goals
      go_wp2_with fail
      go_ret
      exact FIN.out _ _ _ hb1 ho2 hb2
  · go_enter Try.func57, Try.ntmps57
    go_wp2_with fail
    refine HFF.out.mono ?_
    rintro e w1 ⟨rfl, hb1⟩
    have hC := add_concat w1 (some ⟨g, 0, none⟩) (some ⟨g, n * 2, none⟩) n cap (L.length - n) (cap - n) (lowP L i) (highP L i) i c ((pairs_low HP2.out).call hb1) HN.out ((pairs_high HP2.out n HN.out).call hb1) HH.out HIX.out HC.out (by omega) (by omega)
    have HCC := Lib.hid hC
    clear hC
    go_wp2_with fail
    go_region_with (go_at_call 63; refine HCC.out.mono ?_; rintro e w2 ⟨v2, rfl, ho2, hb2⟩)
    all_goals
      go_wp2_with fail
      go_ret
      exact FIN.out _ _ _ hb1 ho2 hb2

theorem add_does : AddDoes := by
  intro w base v L i c h hb ok hg hl hi hc hn
  by_cases c0 : c = 0
  · subst c0; exact add_none_does w base v L i h hg
  · have hc0 : 0 < c := by unfold Word at hc; omega
    rcases good_part i hg with ⟨m, e1, e2, e3⟩ | ⟨e1, e2⟩
    · exact add_in_does w base v L i c m h hb ok hg hl hi hc hc0 e2 (by omega) e1 e3
    · exact add_new_does w base v L i c h hb ok hg hl hi hc hc0 e2 e1
end Go.Proofs.Ytoegjncccahmlaa
