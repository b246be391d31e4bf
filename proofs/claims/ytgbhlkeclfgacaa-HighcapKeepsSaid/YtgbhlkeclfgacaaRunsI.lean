/-
  Walk: the landed code of runs: Find; the library's cmp.Compare and slices.BinarySearchFunc at rows of pairs.
  Walk: the landed code of runs: the pair behind a row.
  Walk: the landed code of runs: Add.
-/
import Derived.Test.YtgbhlkeclfgacaaPairJ
import Derived.Deep.CutRange
import Derived.Test.YtgbhlkeclfgacaaQuillC
import Derived.Deep.RegionWith
import Derived.Test.YtgbhlkeclfgacaaRunsK
import Derived.Deep.AppendLies
namespace Go.Proofs.Ytgbhlkeclfgacaa
set_option linter.unusedVariables false
set_option linter.unusedSimpArgs false
open Go.RowKit

def cmpI (x y : Int) : Int := if x < y then -1 else if y < x then 1 else 0
theorem cmpI_neg {x y : Int} : cmpI x y < 0 ↔ x < y := by unfold cmpI; split <;> (try split) <;> omega
theorem cmpI_zero {x y : Int} : cmpI x y = 0 ↔ x = y := by unfold cmpI; split <;> (try split) <;> omega

set_option maxHeartbeats 400000 in
theorem nan_any (x : Int) (w : World) : Calls Try.prog 62 #[.int .i64 x] w fun e w' => e = .returned (.bool false) ∧ w = w' := by
  have e1 : (!(x == x)) = false := by simp
  go_enter Try.func62, Try.ntmps62
  go_wp2_with fail
  go_ret
  exact ⟨by simp, rfl⟩

set_option maxHeartbeats 400000 in
theorem compare_int (x y : Int) (w : World) : Calls Try.prog 58 #[.int .i64 x, .int .i64 y] w fun e w' => e = .returned (.int .i64 (cmpI x y)) ∧ w = w' := by
  have HN := Lib.hid nan_any
  obtain ⟨r, hr⟩ : ∃ r, cmpI x y = r := ⟨_, rfl⟩
  have HR := Lib.hid hr
  rw [hr]
  clear hr
  by_cases h1 : x < y
  · have HE : Hid (-1 = r) := Lib.hid (by rw [← HR.out]; unfold cmpI; rw [if_pos h1])
    go_enter Try.func58, Try.ntmps58
    go_wp2_with (go_at_call 62; refine (HN.out _ _).mono ?_; rintro e w' ⟨rfl, rfl⟩)
    go_ret
    exact ⟨ret_int HE.out, rfl⟩
  · by_cases h2 : y < x
    · have HE : Hid (1 = r) := Lib.hid (by rw [← HR.out]; unfold cmpI; rw [if_neg h1, if_pos h2])
      go_enter Try.func58, Try.ntmps58
      go_wp2_with (go_at_call 62; refine (HN.out _ _).mono ?_; rintro e w' ⟨rfl, rfl⟩)
      go_ret
      exact ⟨ret_int HE.out, rfl⟩
    · have HE : Hid (0 = r) := Lib.hid (by rw [← HR.out]; unfold cmpI; rw [if_neg h1, if_neg h2])
      go_enter Try.func58, Try.ntmps58
      go_wp2_with (go_at_call 62; refine (HN.out _ _).mono ?_; rintro e w' ⟨rfl, rfl⟩)
      go_ret
      exact ⟨ret_int HE.out, rfl⟩

set_option maxHeartbeats 400000 in
theorem find_cmp (px pc i r : Int) (hr : cmpI px i = r) (w : World) : Calls Try.prog 57 #[.agg #[.int .i64 px, .int .u64 pc], .int .i64 i] w fun e w' => e = .returned (.int .i64 r) ∧ Below w.heap.size w w' := by
  subst hr
  obtain ⟨r, hr⟩ : ∃ r, cmpI px i = r := ⟨_, rfl⟩
  have HC := Lib.hid (fun W => hr ▸ compare_int px i W)
  rw [hr]
  clear hr
  go_enter Try.func57, Try.ntmps57
  go_wp2_with fail
  refine (HC.out _).mono ?_
  rintro e w' ⟨rfl, rfl⟩
  go_wp2_with fail
  go_ret
  exact ⟨rfl, (Below.refl _ _).alloc (Nat.le_refl _) _⟩

/-- The place of an index: those ahead are less, those from there on aren't. -/
theorem low_at {L : List PairV} {i : Int} {lo : Nat} (hlo : lo ≤ L.length) (h1 : ∀ t p, t < lo → L[t]? = some p → p.1 < i) (h2 : ∀ t p, lo ≤ t → L[t]? = some p → i ≤ p.1) : lowP L i = L.take lo := by
  have e : lowP L i = lowP (L.take lo) i ++ lowP (L.drop lo) i := by unfold lowP; rw [← List.filter_append, List.take_append_drop]
  rw [e]
  have e1 : lowP (L.take lo) i = L.take lo := by
    unfold lowP; rw [List.filter_eq_self]
    intro p hp
    obtain ⟨t, ht, rfl⟩ := List.getElem_of_mem hp
    rw [List.length_take] at ht
    exact decide_eq_true (h1 t (L.take lo)[t] (by omega) (by rw [List.getElem_take]; exact List.getElem?_eq_getElem (by omega)))
  have e2 : lowP (L.drop lo) i = [] := by
    unfold lowP; rw [List.filter_eq_nil_iff]
    intro p hp
    obtain ⟨t, ht, rfl⟩ := List.getElem_of_mem hp
    rw [List.length_drop] at ht
    have := h2 (lo + t) (L.drop lo)[t] (by omega) (by rw [List.getElem_drop]; exact List.getElem?_eq_getElem (by omega))
    simp only [decide_eq_true_eq]; omega
  rw [e1, e2, List.append_nil]
theorem is_at {L : List PairV} {i : Int} {lo : Nat} (hg : GoodP L) (h1 : ∀ t p, t < lo → L[t]? = some p → p.1 < i) (h2 : ∀ t p, lo ≤ t → L[t]? = some p → i ≤ p.1) : isP L i = ((L[lo]?).map fun p => p.1 == i).getD false := by
  cases hx : L[lo]? with
  | none =>
    have hl : L.length ≤ lo := List.getElem?_eq_none_iff.1 hx
    show isP L i = false
    unfold isP; rw [List.any_eq_false]
    intro p hp
    obtain ⟨t, ht, rfl⟩ := List.getElem_of_mem hp
    have := h1 t _ (by omega) (List.getElem?_eq_getElem ht)
    simp; omega
  | some q =>
    show isP L i = (q.1 == i)
    by_cases hq : q.1 = i
    · rw [hq]
      have : isP L i = true := by unfold isP; rw [List.any_eq_true]; exact ⟨q, List.mem_of_getElem? hx, by simpa using hq⟩
      rw [this]; simp
    · have e : (q.1 == i) = false := by simpa using hq
      rw [e]; unfold isP; rw [List.any_eq_false]
      intro p hp
      obtain ⟨t, ht, rfl⟩ := List.getElem_of_mem hp
      have hqi := h2 lo q (Nat.le_refl _) hx
      rcases Nat.lt_trichotomy t lo with h | h | h
      · have := h1 t _ h (List.getElem?_eq_getElem ht); simp; omega
      · subst h; rw [List.getElem?_eq_getElem ht] at hx; rw [Option.some.inj hx]; simpa using hq
      · have hlo : lo < L.length := by omega
        have e2 := (List.pairwise_iff_getElem.1 hg.2) lo t hlo ht h
        rw [List.getElem?_eq_getElem hlo] at hx
        rw [Option.some.inj hx] at e2
        simp; omega

set_option maxRecDepth 100000 in
set_option maxHeartbeats 1000000 in
theorem search_any (w : World) (A : Option Addr) (cap : Nat) (L : List PairV) (i : Int) (n : Nat) (b : Bool) (h : Pairs w A L) (hl : L.length ≤ 100000) (hg : GoodP L) (hi : I64 i) (hn : (lowP L i).length = n) (hb : isP L i = b) :
    Calls Try.prog 56 #[.slice A L.length cap, .int .i64 i, .func (.func 57) #[] #[]] w fun e w' => e = .returned (.tuple #[.int .i64 n, .bool b]) ∧ Below w.heap.size w w' := by
  have HI := Lib.hid h
  have HN := Lib.hid hn
  have HB := Lib.hid hb
  have HG := Lib.hid hg
  have HS : Hid (∀ (a b : Nat) (p q : PairV), a ≤ b → L[a]? = some p → L[b]? = some q → p.1 ≤ q.1) := Lib.hid (by
    intro a b p q hab ha hb
    rcases Nat.lt_or_eq_of_le hab with h1 | h1
    · have hbl : b < L.length := by
        rcases Nat.lt_or_ge b L.length with h2 | h2
        · exact h2
        · rw [List.getElem?_eq_none h2] at hb; cases hb
      have e2 := (List.pairwise_iff_getElem.1 hg.2) a b (by omega) hbl h1
      rw [List.getElem?_eq_getElem (by omega)] at ha
      rw [List.getElem?_eq_getElem hbl] at hb
      rw [Option.some.inj ha, Option.some.inj hb] at e2
      omega
    · subst h1; rw [ha] at hb; rw [Option.some.inj hb]; exact Int.le_refl _)
  clear h hg hn hb
  have HF := Lib.hid find_cmp
  go_enter Try.func56, Try.ntmps56
  go_wp2_with fail
  go_loopw [9, 10] (fun a c wr => ∃ lo hi : Nat, a = .int .i64 lo ∧ c = .int .i64 hi ∧ lo ≤ hi ∧ hi ≤ L.length ∧ (∀ t p, t < lo → L[t]? = some p → p.1 < i) ∧ (∀ t p, hi ≤ t → L[t]? = some p → i ≤ p.1) ∧ Below w.heap.size w wr) (fun a c _ => (intOf c).toNat - (intOf a).toNat)
  case atStart => exact ⟨0, L.length, rfl, rfl, Nat.zero_le _, Nat.le_refl _, fun t p ht => absurd ht (Nat.not_lt_zero _), fun t p ht hp => (by rw [List.getElem?_eq_none ht] at hp; cases hp), Below.refl _ _⟩
  case round =>
    obtain ⟨lo, hi', rfl, rfl, hlh, hhi, h1, h2, hb2⟩ := hrel
    have H1 := Lib.hid h1
    have H2 := Lib.hid h2
    have hbs := hb2.size
    clear h1 h2
    by_cases hlt : (lo : Int) < (hi' : Int)
    · obtain ⟨m, hm⟩ : ∃ m : Nat, m = (lo + hi') / 2 := ⟨_, rfl⟩
      have hm1 : lo ≤ m := by omega
      have hm2 : m < hi' := by omega
      have hmi : ((lo : Int) + (hi' : Int)) / 2 = (m : Int) := by omega
      have mm : (m : Int) < L.length := by omega
      have mm' : m < L.length := by omega
      have hxm : L[m]? = some L[m] := List.getElem?_eq_getElem mm'
      generalize hit : L[m] = p at *
      obtain ⟨px, pc⟩ := p
      obtain ⟨b0, off, rfl, hbl, c0, c1⟩ := (HI.out.call hb2).at_ m _ hxm
      simp only at c0 c1
      have HXM := Lib.hid hxm
      clear hm hxm hit
      obtain ⟨r, hr⟩ : ∃ r, cmpI px i = r := ⟨_, rfl⟩
      have HR := Lib.hid hr
      by_cases hc : px < i
      · have hr0 : r < 0 := by rw [← hr]; exact cmpI_neg.2 hc
        clear hr
        go_wp2_with fail
        refine (HF.out px pc i r HR.out _).mono ?_
        rintro e w1 ⟨rfl, hb3⟩
        have hb4 := hb2.trans (hb3.mono hbs)
        clear hb3 c0 c1
        go_wp2_with fail
        go_roundw
        case rel => exact ⟨m + 1, hi', by go_num, rfl, by omega, hhi, fun t p ht hp => (by have h5 := HS.out t m p _ (by omega) hp HXM.out; simp only at h5; omega), H2.out, hb4⟩
        case measure => simp [intOf]; omega
      · have hr0 : ¬ r < 0 := by rw [← hr]; exact fun h => hc (cmpI_neg.1 h)
        clear hr
        go_wp2_with fail
        refine (HF.out px pc i r HR.out _).mono ?_
        rintro e w1 ⟨rfl, hb3⟩
        have hb4 := hb2.trans (hb3.mono hbs)
        clear hb3 c0 c1
        go_wp2_with fail
        go_roundw
        case rel => exact ⟨lo, m, rfl, by go_num, by omega, by omega, H1.out, fun t p ht hp => (by have h5 := HS.out m t _ p ht HXM.out hp; simp only at h5; omega), hb4⟩
        case measure => simp [intOf]; omega
    · obtain rfl : hi' = lo := by omega
      have HLO : Hid (hi' = n) := Lib.hid (by
        rw [← HN.out, low_at hhi H1.out H2.out, List.length_take]; omega)
      have HIS := Lib.hid (is_at HG.out H1.out H2.out)
      by_cases hl2 : hi' < L.length
      · have kk : (hi' : Int) < L.length := by omega
        have hxm : L[hi']? = some L[hi'] := List.getElem?_eq_getElem hl2
        generalize hit : L[hi'] = p at *
        obtain ⟨px, pc⟩ := p
        obtain ⟨b0, off, rfl, hbl, c0, c1⟩ := (HI.out.call hb2).at_ hi' _ hxm
        simp only at c0 c1
        have HE : Hid ((px == i) = b) := Lib.hid (by rw [← HB.out, HIS.out, hxm]; rfl)
        clear hxm hit
        obtain ⟨r, hr⟩ : ∃ r, cmpI px i = r := ⟨_, rfl⟩
        have HR := Lib.hid hr
        by_cases hc : px = i
        · have hr0 : r = 0 := by rw [← hr]; exact cmpI_zero.2 hc
          have HB1 : Hid (true = b) := Lib.hid (by rw [← HE.out]; simp [hc])
          have HC := Lib.hid hc
          subst hr0
          clear hr hc
          go_wp2_with fail
          refine (HF.out px pc i 0 HR.out _).mono ?_
          rintro e w1 ⟨rfl, hb3⟩
          have hb4 := hb2.trans (hb3.mono hbs)
          go_wp2_with fail
          go_ret2
          exact ⟨ret_pair (by rw [HLO.out]) HB1.out, hb4⟩
        · have hr0 : (r == 0) = false := by
            have : r ≠ 0 := by rw [← hr]; exact fun h => hc (cmpI_zero.1 h)
            simpa using this
          have HB1 : Hid (false = b) := Lib.hid (by rw [← HE.out]; simp [hc])
          clear hr hc
          go_wp2_with fail
          refine (HF.out px pc i r HR.out _).mono ?_
          rintro e w1 ⟨rfl, hb3⟩
          have hb4 := hb2.trans (hb3.mono hbs)
          go_wp2_with fail
          go_ret2
          exact ⟨ret_pair (by rw [HLO.out]) HB1.out, hb4⟩
      · have kk : ¬ (hi' : Int) < L.length := by omega
        have HB1 : Hid (false = b) := Lib.hid (by rw [← HB.out, HIS.out, List.getElem?_eq_none (by omega)]; rfl)
        go_wp2_with fail
        go_ret2
        exact ⟨ret_pair (by rw [HLO.out]) HB1.out, hb2⟩

set_option maxHeartbeats 400000 in
theorem find_big (w : World) (A : Option Addr) (cap : Nat) (L : List PairV) (i : Int) (n : Nat) (b : Bool) (h : Pairs w A L) (hl : L.length ≤ 100000) (hg : GoodP L) (hi : I64 i) (hn : (lowP L i).length = n) (hb : isP L i = b) :
    Calls Try.prog 49 #[.slice A L.length cap, .int .i64 i] w fun e w' => e = .returned (.tuple #[.int .i64 n, .bool b]) ∧ Below w.heap.size w w' := by
  have H := Lib.hid (search_any w A cap L i n b h hl hg hi hn hb)
  clear h hg hn hb
  go_enter Try.func49, Try.ntmps49
  go_wp2_with fail
  refine H.out.mono ?_
  rintro e w' ⟨rfl, hb⟩
  go_wp2_with fail
  go_ret2
  exact ⟨rfl, hb⟩
theorem find_does : FindDoes := fun w A cap L i n b h hl hg hi hn hb => find_big w A cap L i n b h (by omega) hg hi hn hb
end Go.Proofs.Ytgbhlkeclfgacaa

namespace Go.Proofs.Ytgbhlkeclfgacaa
set_option linter.unusedVariables false
set_option linter.unusedSimpArgs false
open Go.RowKit

theorem grown_alloc {a b : World} {r : Option Nat} (h : a.grownBy b r) (o : Obj) : a.grownBy (b.alloc o) r :=
  ⟨h.os, h.tape, h.output, Nat.le_trans h.size (by simp), fun i hi hr => (heap_alloc_old _ _ (Nat.lt_of_lt_of_le hi h.size)).trans (h.block i hi hr)⟩
theorem grown_own {a b c : World} {r r' : Option Nat} (h : a.grownBy b r) (k : b.grownBy c r') (hr : ∀ g, r' = some g → a.heap.size ≤ g) : a.grownBy c r :=
  ⟨k.os.trans h.os, k.tape.trans h.tape, k.output.trans h.output, Nat.le_trans h.size k.size, fun i hi hne => (k.block i (Nat.lt_of_lt_of_le hi h.size) (fun e => by have := hr i e.symm; omega)).trans (h.block i hi hne)⟩
theorem grown_call {a b c : World} {r : Option Nat} (h : a.grownBy b r) (k : Below b.heap.size b c) : a.grownBy c r :=
  ⟨k.os.trans h.os, k.tape.trans h.tape, k.output.trans h.output, Nat.le_trans h.size k.size, fun i hi hne => (k.block i (Nat.lt_of_lt_of_le hi h.size)).trans (h.block i hi hne)⟩
theorem grown_cell {a b : World} {B g o : Nat} {v : Value} (h : a.grownBy b (some B)) (hne : g ≠ B) (hc : a.cell? ⟨g, o, none⟩ = some v) : b.cell? ⟨g, o, none⟩ = some v := by
  have hlt := World.block_lt_of_cell? (a := ⟨g, o, none⟩) a hc
  exact (World.cell?_of_block (a := ⟨g, o, none⟩) (h.block g hlt (fun e => hne (Option.some.inj e)))).trans hc
theorem Eye.grown {w w' : World} {B : Nat} {s : ByteArray} {bad : Bool} {r : Option Nat} (h : Eye w B s bad) (hg : w.grownBy w' r) (hne : r ≠ some B) : Eye w' B s bad := by
  have hlt := h.two.lt
  have hb := hg.block B hlt (fun e => hne e.symm)
  exact ⟨⟨(World.cell?_of_block (a := ⟨B, 0, none⟩) hb).trans h.two.c0, (World.cell?_of_block (a := ⟨B, 1, none⟩) hb).trans h.two.c1, (World.frozen?_of_block (a := ⟨B, 0, none⟩) hb).trans h.two.f0, (World.frozen?_of_block (a := ⟨B, 1, none⟩) hb).trans h.two.f1⟩, h.non⟩
theorem Eye.lt {w : World} {B : Nat} {s : ByteArray} {bad : Bool} (h : Eye w B s bad) : B < w.heap.size := h.two.lt
theorem Eye.alloc {w : World} {B : Nat} {s : ByteArray} {bad : Bool} (h : Eye w B s bad) (o : Obj) : Eye (w.alloc o) B s bad := h.call ((Below.refl _ _).alloc (Nat.le_refl _) _)
theorem nS_le (s : ByteArray) (bad : Bool) (m : Nat) (n : Nat) (h : s.size ≤ n) : (nS s bad m).size ≤ n := Nat.le_trans (nS_size s bad m) h

/-- A result that lies in a cell of two. -/
theorem ret_agg {a b c d : Int} (h : a = c) (h' : b = d) : Ending.returned (.agg #[.int .i64 a, .int .u64 b]) = .returned (.agg #[.int .i64 c, .int .u64 d]) := by rw [h, h']

/-- The index so far behind one. -/
def nextI (q v : Int) : Int := (q + 1 + v + 9223372036854775808) % 18446744073709551616 - 9223372036854775808

end Go.Proofs.Ytgbhlkeclfgacaa

namespace Go.Proofs.Ytgbhlkeclfgacaa
set_option linter.unusedVariables false
set_option linter.unusedSimpArgs false
open Go.RowKit

theorem isP_app (A B : List PairV) (i : Int) : isP (A ++ B) i = (isP A i || isP B i) := by unfold isP; rw [List.any_append]
theorem isP_no {L : List PairV} {i : Int} (h : ∀ p, p ∈ L → p.1 ≠ i) : isP L i = false := by
  unfold isP; rw [List.any_eq_false]; intro p hp; simpa using h p hp
theorem is_part {L : List PairV} {i : Int} (h : isP (lowP L i) i = false ∧ isP (highP L i) i = false := ⟨isP_no fun p hp => by have := (lowP_mem hp).2; omega, isP_no fun p hp => by have := (highP_mem hp).2; omega⟩) : isP (lowP L i ++ highP L i) i = false ∧ ∀ m, isP (lowP L i ++ ((i, m) :: highP L i)) i = true := by
  refine ⟨by rw [isP_app, h.1, h.2]; rfl, fun m => ?_⟩
  rw [isP_app]; unfold isP; simp
theorem cellsQ_set (A B : List PairV) (i m m' : Int) : (cellsQ (A ++ (i, m) :: B)).set (A.length * 2 + 1) (.int .u64 m') = cellsQ (A ++ (i, m') :: B) := by
  rw [cellsQ_app, cellsQ_app, cellsQ_cons, cellsQ_cons, List.set_append_right _ _ (by rw [cellsQ_len]; omega), cellsQ_len]
  rw [show A.length * 2 + 1 - A.length * 2 = 1 by omega]
  rfl

set_option maxRecDepth 100000 in
set_option maxHeartbeats 1000000 in
theorem add_none_does (w : World) (base : Nat) (v : Value) (L : List PairV) (i : Int) (h : OwnP w base v L) (hg : GoodP L) :
    Calls Try.prog 55 #[v, .int .i64 i, .int .u64 0] w (Added w base v L i 0) := by
  have HO : Hid (OwnP w base v (addP L i 0)) := Lib.hid (by rw [add_none hg]; exact h)
  obtain ⟨A, cap, rfl⟩ := h.form
  clear h hg
  go_enter Try.func55, Try.ntmps55
  go_wp2_with fail
  go_ret
  exact ⟨_, rfl, HO.out, grown_refl _ _, Or.inl rfl⟩

set_option maxRecDepth 100000 in
set_option maxHeartbeats 1000000 in
theorem add_in_does (w : World) (base : Nat) (v : Value) (L : List PairV) (i c m : Int) (h : OwnP w base v L) (hb : base ≤ w.heap.size) (ok : ∀ p, p ∈ L → okP p) (hg : GoodP L) (hl : L.length ≤ 1000) (hi : I64 i) (hc : Word c) (c0 : 0 < c)
    (hm : countP L i = m) (hmc : m + c ≤ 9223372036854775807) (hp : lowP L i ++ ((i, m) :: highP L i) = L) (hm1 : 1 ≤ m) :
    Calls Try.prog 55 #[v, .int .i64 i, .int .u64 c] w (Added w base v L i c) := by
  obtain ⟨A, cap, rfl, hP⟩ := h.pairs ok
  obtain ⟨n, hn⟩ : ∃ n, (lowP L i).length = n := ⟨_, rfl⟩
  have his : isP L i = true := by rw [← hp]; exact (is_part (L := L)).2 m
  have hF := find_big w A cap L i n true hP (by omega) hg hi hn his
  have hxn : L[n]? = some (i, m) := by
    have : (lowP L i ++ ((i, m) :: highP L i))[n]? = some (i, m) := by rw [List.getElem?_append_right (by omega), hn, Nat.sub_self]; rfl
    rwa [hp] at this
  have hnl : n < L.length := by
    rcases Nat.lt_or_ge n L.length with h1 | h1
    · exact h1
    · rw [List.getElem?_eq_none h1] at hxn; cases hxn
  have h' : w.ownsRow base 34 2 (.slice A L.length cap) L.length (cellsQ L) := h
  obtain ⟨g, cap', e⟩ : ∃ g cap', (Value.slice A L.length cap) = .slice (some ⟨g, 0, none⟩) L.length cap' := by
    rcases h'.2 with ⟨e, e0⟩ | ⟨g, cap', cur, e, _⟩
    · omega
    · exact ⟨g, cap', e⟩
  injection e with e1 _ e3
  subst e1
  obtain ⟨b0, off, e4, hbl, d0, d1⟩ := hP.at_ n _ hxn
  obtain ⟨rfl, rfl⟩ : g = b0 ∧ 0 = off := by
    have := Option.some.inj e4
    exact ⟨(Addr.mk.inj this).1, (Addr.mk.inj this).2.1⟩
  simp only [Nat.zero_add] at d0 d1
  have hadd : addP L i c = lowP L i ++ ((i, m + c) :: highP L i) := by unfold addP; rw [hm]; unfold midP; rw [if_pos (by omega)]; rfl
  have HS : Hid (∀ w1, Below w.heap.size w w1 → OwnP (w1.setCell ⟨g, n * 2 + 1, none⟩ (.int .u64 (m + c))) base (.slice (some ⟨g, 0, none⟩) L.length cap) (addP L i c) ∧ w.grownBy (w1.setCell ⟨g, n * 2 + 1, none⟩ (.int .u64 (m + c))) (some g)) := Lib.hid fun w1 hb1 => by
    have h1 : w1.ownsRow base 34 2 (.slice (some ⟨g, 0, none⟩) L.length cap) L.length (cellsQ L) := h.call hb1
    obtain ⟨s1, s2⟩ := h1.stored (n * 2 + 1) (.int .u64 (m + c))
    refine ⟨?_, ?_⟩
    · unfold OwnP
      have e5 := cellsQ_set (lowP L i) (highP L i) i m (m + c)
      rw [hp, hn] at e5
      rw [e5] at s1
      have e6 : (addP L i c).length = L.length := by rw [hadd]; have := congrArg List.length hp; simp only [List.length_append, List.length_cons] at this ⊢; exact this
      rw [e6, hadd]
      exact s1
    · exact grown_trans (grown_call (grown_refl w _) hb1) s2
  have HF0 : Hid (∀ w1, Below w.heap.size w w1 → w1.frozen? ⟨g, n * 2 + 1, none⟩ = false) := Lib.hid fun w1 hb1 => by
    have h1 : w1.ownsRow base 34 2 (.slice (some ⟨g, 0, none⟩) L.length cap) L.length (cellsQ L) := h.call hb1
    exact h1.frozenAt _
  have hm64 : m < 18446744073709551616 := by omega
  have hmc2 : IntKind.u64.wrap (m + c) = m + c := by rw [IntKind.wrap_u64]; omega
  have cz : (c == 0) = false := by simp; omega
  have HFF := Lib.hid hF
  obtain ⟨hc1, hc2⟩ := hc
  have nn : (n : Int) < L.length := by omega
  clear hF hxn h h' hP e4 hadd hm hp hn his hg ok e3 d0
  go_enter Try.func55, Try.ntmps55
  go_wp2_with fail
  refine HFF.out.mono ?_
  rintro e w1 ⟨rfl, hb1⟩
  have d2 : w1.cell? ⟨g, n * 2 + 1, none⟩ = some (.int .u64 m) := cell_later hb1 d1
  have f2 := HF0.out _ hb1
  clear d1
  go_wp2_with fail
  go_ret
  obtain ⟨s1, s2⟩ := HS.out _ hb1
  exact ⟨_, rfl, s1, s2, Or.inl rfl⟩

/-- Concat of what stands ahead, one pair, and what stands behind. -/
theorem add_concat (w1 : World) (A1 A3 : Option Addr) (n cap l3 cap3 : Nat) (lo hi : List PairV) (i c : Int) (hlo : Pairs w1 A1 lo) (hn : lo.length = n) (hhi : Pairs w1 A3 hi) (hl : hi.length = l3) (hi' : I64 i) (hc : Word c) (b1 : n ≤ 10000) (b3 : l3 ≤ 10000) :
    Calls Try.prog 61 #[.slice (some ⟨w1.heap.size + 1, 0, none⟩) 3 3]
      ((w1.alloc (.cells #[.int .i64 i, .int .u64 c] 34)).alloc (.cells #[.slice A1 n cap, .slice (some ⟨w1.heap.size, 0, none⟩) 1 1, .slice A3 l3 cap3] 22)).drew
      fun e w' => ∃ v, e = .returned v ∧ OwnP w' w1.heap.size v (lo ++ ((i, c) :: hi)) ∧ Below w1.heap.size w1 w' := by
  subst hn hl
  have bA : Below w1.heap.size w1 ((w1.alloc (.cells #[.int .i64 i, .int .u64 c] 34)).alloc (.cells #[.slice A1 lo.length cap, .slice (some ⟨w1.heap.size, 0, none⟩) 1 1, .slice A3 hi.length cap3] 22)).drew := (((Below.refl _ _).alloc (Nat.le_refl _) _).alloc (by simp) _).drew
  obtain ⟨W, hW⟩ : ∃ W, ((w1.alloc (.cells #[.int .i64 i, .int .u64 c] 34)).alloc (.cells #[.slice A1 lo.length cap, .slice (some ⟨w1.heap.size, 0, none⟩) 1 1, .slice A3 hi.length cap3] 22)).drew = W := ⟨_, rfl⟩
  have h1 : W.heap[w1.heap.size]? = some (.cells #[.int .i64 i, .int .u64 c] 34 (0, 0)) := by
    rw [← hW]
    exact (heap_alloc_old _ _ (by simp)).trans (heap_alloc_new w1 _)
  have h2 : W.heap[w1.heap.size + 1]? = some (.cells #[.slice A1 lo.length cap, .slice (some ⟨w1.heap.size, 0, none⟩) 1 1, .slice A3 hi.length cap3] 22 (0, 0)) := by
    rw [← hW]
    have := heap_alloc_new (w1.alloc (.cells #[.int .i64 i, .int .u64 c] 34)) (.cells #[.slice A1 lo.length cap, .slice (some ⟨w1.heap.size, 0, none⟩) 1 1, .slice A3 hi.length cap3] 22)
    rw [World.size_alloc] at this
    exact this
  rw [hW] at bA ⊢
  have hone : Pairs W (some ⟨w1.heap.size, 0, none⟩) [(i, c)] := pairs_of_block h1 rfl (fun p hp => by simp at hp; subst hp; exact ⟨hi', hc⟩)
  have hR : Rows2 W (some ⟨w1.heap.size + 1, 0, none⟩) [⟨A1, cap, lo⟩, ⟨some ⟨w1.heap.size, 0, none⟩, 1, [(i, c)]⟩, ⟨A3, cap3, hi⟩] := by
    refine ⟨fun j r hj => ⟨w1.heap.size + 1, 0, rfl, lt_of_block h2, ?_⟩, fun r hr => ?_⟩
    · match j, hj with
      | 0, hj => simp at hj; subst hj; simp [World.cell?, h2]
      | 1, hj => simp at hj; subst hj; simp [World.cell?, h2]
      | 2, hj => simp at hj; subst hj; simp [World.cell?, h2]
      | k + 3, hj => simp at hj
    · simp only [List.mem_cons, List.not_mem_nil, or_false] at hr
      rcases hr with rfl | rfl | rfl
      · exact ⟨hlo.call bA, by simp only; omega⟩
      · exact ⟨hone, by simp⟩
      · exact ⟨hhi.call bA, by simp only; omega⟩
  have hall : allP [⟨A1, cap, lo⟩, ⟨some ⟨w1.heap.size, 0, none⟩, 1, [(i, c)]⟩, ⟨A3, cap3, hi⟩] = lo ++ ((i, c) :: hi) := by simp [allP]
  have hC := concat_any W _ 3 3 _ hR rfl (by omega) (by rw [hall, List.length_append, List.length_cons]; omega)
  rw [hall] at hC
  refine hC.mono ?_
  rintro e w' ⟨v, rfl, ho, hb⟩
  exact ⟨v, rfl, World.ownsRow.mono ho bA.size, bA.trans (hb.mono bA.size)⟩

theorem pairs_low {w : World} {A : Option Addr} {lo hi : List PairV} (h : Pairs w A (lo ++ hi)) : Pairs w A lo :=
  ⟨fun p hp => h.ok p (List.mem_append_left _ hp), fun j p hj => h.at_ j p (by
    have hl : j < lo.length := by
      rcases Nat.lt_or_ge j lo.length with h1 | h1
      · exact h1
      · rw [List.getElem?_eq_none h1] at hj; cases hj
    rw [List.getElem?_append_left hl]; exact hj)⟩
theorem pairs_high {w : World} {g : Nat} {lo hi : List PairV} (h : Pairs w (some ⟨g, 0, none⟩) (lo ++ hi)) (n : Nat) (hn : lo.length = n) : Pairs w (some ⟨g, n * 2, none⟩) hi :=
  ⟨fun p hp => h.ok p (List.mem_append_right _ hp), fun j p hj => by
    obtain ⟨b, off, e, hb, c0, c1⟩ := h.at_ (n + j) p (by rw [List.getElem?_append_right (by omega), hn, Nat.add_sub_cancel_left]; exact hj)
    obtain ⟨rfl, rfl⟩ : g = b ∧ 0 = off := by
      have := Option.some.inj e
      exact ⟨(Addr.mk.inj this).1, (Addr.mk.inj this).2.1⟩
    refine ⟨g, n * 2, rfl, hb, ?_, ?_⟩
    · rw [← c0]; congr 2; omega
    · rw [← c1]; congr 2; omega⟩

set_option maxRecDepth 100000 in
set_option maxHeartbeats 1000000 in
theorem add_new_does (w : World) (base : Nat) (v : Value) (L : List PairV) (i c : Int) (h : OwnP w base v L) (hb : base ≤ w.heap.size) (ok : ∀ p, p ∈ L → okP p) (hg : GoodP L) (hl : L.length ≤ 1000) (hi : I64 i) (hc : Word c) (c0 : 0 < c)
    (hm : countP L i = 0) (hp : lowP L i ++ highP L i = L) :
    Calls Try.prog 55 #[v, .int .i64 i, .int .u64 c] w (Added w base v L i c) := by
  obtain ⟨A, cap, rfl, hP⟩ := h.pairs ok
  obtain ⟨n, hn⟩ : ∃ n, (lowP L i).length = n := ⟨_, rfl⟩
  have hnl : n ≤ L.length := by rw [← hn]; exact List.length_filter_le _ _
  have his : isP L i = false := by rw [← hp]; exact (is_part (L := L)).1
  have hF := find_big w A cap L i n false hP (by omega) hg hi hn his
  have hh : (highP L i).length = L.length - n := by have := congrArg List.length hp; rw [List.length_append] at this; omega
  have cz : (c == 0) = false := by simp; omega
  have hcap : L.length ≤ cap := by
    rcases h.2 with ⟨e, e0⟩ | ⟨g, cap', cur, e, _, _, hnc, _⟩
    · omega
    · injection e with _ _ e3; omega
  have hadd : addP L i c = lowP L i ++ ((i, c) :: highP L i) := by unfold addP; rw [hm, Int.zero_add]; unfold midP; rw [if_pos c0]; rfl
  have HADD := Lib.hid hadd
  have HFF := Lib.hid hF
  have HC := Lib.hid hc
  have HIX := Lib.hid hi
  obtain ⟨hc1, hc2⟩ := hc
  have hP2 : Pairs w A (lowP L i ++ highP L i) := by rw [hp]; exact hP
  have HP2 := Lib.hid hP2
  have HH := Lib.hid hh
  have HN := Lib.hid hn
  have hform : (A = none ∧ L.length = 0 ∧ cap = 0) ∨ ∃ g, A = some ⟨g, 0, none⟩ := by
    rcases h.2 with ⟨e, e0⟩ | ⟨g, cap', cur, e, _⟩
    · injection e with e1 e2 e3; exact Or.inl ⟨e1, e0, e3⟩
    · injection e with e1 _ _; exact Or.inr ⟨g, e1⟩
  clear hF hp hn his hg hP h hm hadd hP2 hh
  have fin : ∀ w1 w2 v2, Below w.heap.size w w1 → OwnP w2 w1.heap.size v2 (lowP L i ++ ((i, c) :: highP L i)) → Below w1.heap.size w1 w2 → Added w base (.slice A L.length cap) L i c (.returned v2) w2 := fun w1 w2 v2 hb1 ho hb2 =>
    ⟨v2, rfl, by rw [HADD.out]; exact World.ownsRow.mono ho (Nat.le_trans hb hb1.size), grown_call (grown_call (grown_refl w _) hb1) hb2, Or.inr fun g hg => Nat.le_trans hb1.size (OwnP.lt ho g hg).1⟩
  have FIN := Lib.hid fin
  clear fin
  rcases hform with ⟨rfl, hl0, rfl⟩ | ⟨g, rfl⟩
  · obtain rfl : n = 0 := by omega
    have HN2 : Hid (highP L i = []) := Lib.hid (List.eq_nil_of_length_eq_zero (by rw [HH.out]; omega))
    have HLL := Lib.hid hl0
    rw [hl0] at *
    clear hl0
    go_enter Try.func55, Try.ntmps55
    go_wp2_with fail
    refine HFF.out.mono ?_
    rintro e w1 ⟨rfl, hb1⟩
    have hC := add_concat w1 none none 0 0 0 0 (lowP L i) (highP L i) i c ((pairs_low HP2.out).call hb1) HN.out (by rw [HN2.out]; exact Pairs.nil _) (by rw [HN2.out]; rfl) HIX.out HC.out (by omega) (by omega)
    have HCC := Lib.hid hC
    clear hC
    go_wp2_with fail
    go_region_with (go_at_call 61; refine HCC.out.mono ?_; rintro e w2 ⟨v2, rfl, ho2, hb2⟩)
    all_goals
      go_wp2_with fail
      go_ret
      exact FIN.out _ _ _ hb1 ho2 hb2
  have n1 : (n : Int) ≤ cap := by omega
  have n2 : (n : Int) ≤ L.length := by omega
  have n3 : n ≤ cap := by omega
  by_cases hcn : cap = n
  · have e1 : L.length - n = 0 := by omega
    have HN2 : Hid (highP L i = []) := Lib.hid (List.eq_nil_of_length_eq_zero (by rw [HH.out]; omega))
    subst hcn
    have HE1 := Lib.hid e1
    clear e1
    go_enter Try.func55, Try.ntmps55
    go_wp2_with fail
    refine HFF.out.mono ?_
    rintro e w1 ⟨rfl, hb1⟩
    have hC := add_concat w1 (some ⟨g, 0, none⟩) (some ⟨g, 0, none⟩) cap cap 0 0 (lowP L i) (highP L i) i c ((pairs_low HP2.out).call hb1) HN.out (by rw [HN2.out]; exact ⟨fun p hp => (by cases hp), fun j p hj => by simp at hj⟩) (by rw [HN2.out]; rfl) HIX.out HC.out (by omega) (by omega)
    have HCC := Lib.hid hC
    clear hC
    go_wp2_with fail
    go_region_with (go_at_call 61; refine HCC.out.mono ?_; rintro e w2 ⟨v2, rfl, ho2, hb2⟩)
    all_goals
      go_wp2_with fail
      go_ret
      exact FIN.out _ _ _ hb1 ho2 hb2
  · go_enter Try.func55, Try.ntmps55
    go_wp2_with fail
    refine HFF.out.mono ?_
    rintro e w1 ⟨rfl, hb1⟩
    have hC := add_concat w1 (some ⟨g, 0, none⟩) (some ⟨g, n * 2, none⟩) n cap (L.length - n) (cap - n) (lowP L i) (highP L i) i c ((pairs_low HP2.out).call hb1) HN.out ((pairs_high HP2.out n HN.out).call hb1) HH.out HIX.out HC.out (by omega) (by omega)
    have HCC := Lib.hid hC
    clear hC
    go_wp2_with fail
    go_region_with (go_at_call 61; refine HCC.out.mono ?_; rintro e w2 ⟨v2, rfl, ho2, hb2⟩)
    all_goals
      go_wp2_with fail
      go_ret
      exact FIN.out _ _ _ hb1 ho2 hb2

theorem add_does : AddDoes := by
  intro w base v L i c h hb ok hg hl hi hc hn
  by_cases c0 : c = 0
  · subst c0; exact add_none_does w base v L i h hg
  · have hc0 : 0 < c := by unfold Word at hc; omega
    rcases good_part i hg with ⟨m, e1, e2, e3⟩ | ⟨e1, e2⟩
    · exact add_in_does w base v L i c m h hb ok hg hl hi hc hc0 e2 (by omega) e1 e3
    · exact add_new_does w base v L i c h hb ok hg hl hi hc hc0 e2 e1
end Go.Proofs.Ytgbhlkeclfgacaa
